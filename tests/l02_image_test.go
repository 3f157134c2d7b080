package tests

import (
	"math"
	"slices"
	"testing"

	"loop.example/g00231/impl"
)

// imageOf makes an image of n banks; no two of its banks are alike, and every byte stands in each.
func imageOf(n int) impl.Image {
	m := impl.Image{Banks: make([][]int, n)}
	for i := range m.Banks {
		m.Banks[i] = make([]int, 256)
		for k := range m.Banks[i] {
			m.Banks[i][k] = (k*(2*i+1) + 37*i) % 256
		}
		m.Banks[i][255-i] = 200 + i
	}
	return m
}

// fileOf writes the file of an image down by the document's words, whatever it is.
func fileOf(m impl.Image) []byte {
	sum := 0
	var all []byte
	for _, bank := range m.Banks {
		for _, v := range bank {
			sum += v
			all = append(all, byte(v))
		}
	}
	return append([]byte{'2', 'C', 'L', 'K', byte(len(m.Banks)), byte(wrapped(sum))}, all...)
}

func sameImage(a, b impl.Image) bool {
	return slices.EqualFunc(a.Banks, b.Banks, slices.Equal[[]int])
}

func copyImage(m impl.Image) impl.Image {
	var c impl.Image
	for _, bank := range m.Banks {
		c.Banks = append(c.Banks, slices.Clone(bank))
	}
	return c
}

// wrongImages are images that are none, each by one fault.
func wrongImages() map[string]impl.Image {
	wrong := map[string]impl.Image{
		"nil banks":       {},
		"no bank":         {Banks: [][]int{}},
		"a bank too many": imageOf(impl.MaxBanks + 1),
		"a nil bank":      {Banks: [][]int{nil}},
		"an empty bank":   {Banks: [][]int{{}}},
	}
	for name, size := range map[string]int{"short": 255, "long": 257} {
		first, last := imageOf(3), imageOf(3)
		first.Banks[0] = make([]int, size)
		last.Banks[2] = make([]int, size)
		wrong["first bank "+name], wrong["last bank "+name] = first, last
	}
	for name, v := range map[string]int{"-1": -1, "256": 256, "the least": math.MinInt, "the greatest": math.MaxInt} {
		first, last := imageOf(3), imageOf(3)
		first.Banks[0][0] = v
		last.Banks[2][255] = v
		wrong["first byte "+name], wrong["last byte "+name] = first, last
	}
	return wrong
}

func TestImageConstants(t *testing.T) {
	if impl.BankSize != 256 || impl.MaxBanks != 8 {
		t.Error("limits", impl.BankSize, impl.MaxBanks)
	}
	codes := []int{impl.ImDone, impl.ImHead, impl.ImCount, impl.ImShort, impl.ImLong, impl.ImSum}
	if !slices.Equal(codes, []int{0, 1, 2, 3, 4, 5}) {
		t.Error("codes", codes)
	}
}

func TestImageOk(t *testing.T) {
	for n := 1; n <= impl.MaxBanks; n++ {
		if !impl.ImageOk(imageOf(n)) {
			t.Errorf("an image of %d banks is none", n)
		}
	}
	edges := imageOf(2)
	edges.Banks[0][0], edges.Banks[1][255] = 0, 255
	if !impl.ImageOk(edges) {
		t.Error("an image with the bytes 0 and 255 is none")
	}
	for name, m := range wrongImages() {
		if impl.ImageOk(m) {
			t.Errorf("%s: ImageOk", name)
		}
	}
}

func TestImageBytes(t *testing.T) {
	for n := 1; n <= impl.MaxBanks; n++ {
		m := imageOf(n)
		if got := impl.ImageBytes(m); !slices.Equal(got, fileOf(m)) {
			t.Errorf("%d banks: another file", n)
		}
	}
	for name, m := range wrongImages() {
		if got := impl.ImageBytes(m); len(got) != 0 {
			t.Errorf("%s: a file of %d bytes", name, len(got))
		}
	}
}

func TestImageBytesByHand(t *testing.T) {
	m := impl.Image{Banks: [][]int{make([]int, 256), make([]int, 256)}}
	m.Banks[0][0], m.Banks[0][255], m.Banks[1][0], m.Banks[1][255] = 255, 2, 254, 3
	b := impl.ImageBytes(m)
	if len(b) != 518 || string(b[:7]) != "2CLK\x02\x02\xff" || b[261] != 2 || b[262] != 254 || b[517] != 3 {
		t.Errorf("file %v", b)
	}
}

func TestP2ImageIsReadAsItWas(t *testing.T) {
	for _, n := range []int{1, 2, 3, 7, impl.MaxBanks} {
		m := imageOf(n)
		got, how := impl.ImageRead(impl.ImageBytes(m))
		if how != impl.ImDone || !sameImage(got, m) || !impl.ImageOk(got) {
			t.Errorf("%d banks: read as another one, with code %d", n, how)
		}
		file := fileOf(m)
		got, how = impl.ImageRead(file)
		if how != impl.ImDone || !slices.Equal(impl.ImageBytes(got), file) {
			t.Errorf("%d banks: the file is written as another one, with code %d", n, how)
		}
	}
	for v := range 256 {
		m := imageOf(1)
		for i := range m.Banks[0] {
			m.Banks[0][i] = v
		}
		m.Banks[0][v] = 255 - v
		if got, how := impl.ImageRead(impl.ImageBytes(m)); how != impl.ImDone || !sameImage(got, m) {
			t.Errorf("bank of %d: read as another one, with code %d", v, how)
		}
	}
}

// changed is a file with v at a place.
func changed(file []byte, at int, v byte) []byte {
	c := slices.Clone(file)
	c[at] = v
	return c
}

func checkFault(t *testing.T, name string, file []byte, want int) {
	t.Helper()
	if m, how := impl.ImageRead(file); how != want || len(m.Banks) != 0 {
		t.Errorf("%s: %d banks and code %d, want none and %d", name, len(m.Banks), how, want)
	}
}

func TestImageReadFaultsAlone(t *testing.T) {
	for _, n := range []int{1, 2, impl.MaxBanks} {
		file := fileOf(imageOf(n))
		for at := range 4 {
			checkFault(t, "wrong head", changed(file, at, file[at]+1), impl.ImHead)
			checkFault(t, "small letter", changed(file, at, file[at]^32), impl.ImHead)
		}
		checkFault(t, "one byte short", file[:len(file)-1], impl.ImShort)
		checkFault(t, "no bank's byte", file[:6], impl.ImShort)
		checkFault(t, "one byte long", append(slices.Clone(file), 0), impl.ImLong)
		checkFault(t, "a bank long", append(slices.Clone(file), make([]byte, 256)...), impl.ImLong)
		checkFault(t, "sum one more", changed(file, 5, file[5]+1), impl.ImSum)
		checkFault(t, "sum one less", changed(file, 5, file[5]-1), impl.ImSum)
		checkFault(t, "first byte", changed(file, 6, file[6]+1), impl.ImSum)
		checkFault(t, "last byte", changed(file, len(file)-1, file[len(file)-1]+1), impl.ImSum)
	}
	none := fileOf(impl.Image{})
	checkFault(t, "no bank", none, impl.ImCount)
	checkFault(t, "9 banks", fileOf(imageOf(9)), impl.ImCount)
	checkFault(t, "255 banks", append([]byte{'2', 'C', 'L', 'K', 255, 0}, make([]byte, 255*256)...), impl.ImCount)
}

func TestImageReadTooShortForItsHead(t *testing.T) {
	file := fileOf(imageOf(1))
	checkFault(t, "nil", nil, impl.ImHead)
	for n := range 6 {
		checkFault(t, "a piece of the head", file[:n], impl.ImHead)
		checkFault(t, "a piece of the head alone", slices.Clone(file[:n]), impl.ImHead)
	}
	checkFault(t, "head with a count of 0 and no sum", []byte("2CLK\x00"), impl.ImHead)
	checkFault(t, "head with a count of 9 and no sum", []byte("2CLK\x09"), impl.ImHead)
}

func TestImageReadFirstNamedFaultCounts(t *testing.T) {
	file := fileOf(imageOf(2))
	long := append(slices.Clone(file), 0)
	short := file[:len(file)-1]
	for _, e := range []struct {
		name string
		file []byte
		want int
	}{
		{"head and count 0", changed(changed(file, 0, '3'), 4, 0), impl.ImHead},
		{"head and count 9", changed(changed(file, 3, 'k'), 4, 9), impl.ImHead},
		{"head and short", changed(short, 1, 0), impl.ImHead},
		{"head and long", changed(long, 2, 0), impl.ImHead},
		{"head and sum", changed(changed(file, 0, 0), 5, file[5]+1), impl.ImHead},
		{"count 0 and a byte missing", changed(short, 4, 0), impl.ImCount},
		{"count 0 and long", changed(long, 4, 0), impl.ImCount},
		{"count 9 and short", changed(file, 4, 9), impl.ImCount},
		{"count 9 and long", append(fileOf(imageOf(9)), 0), impl.ImCount},
		{"count 0 and sum", changed([]byte("2CLK\x00\x00"), 5, 1), impl.ImCount},
		{"count 9 and sum", changed(fileOf(imageOf(9)), 5, fileOf(imageOf(9))[5]+1), impl.ImCount},
		{"short and sum", changed(short, 5, file[5]+1), impl.ImShort},
		{"long and sum", changed(long, 5, file[5]+1), impl.ImLong},
		{"count above what is there", changed(file, 4, 3), impl.ImShort},
		{"count below what is there", changed(file, 4, 1), impl.ImLong},
	} {
		checkFault(t, e.name, e.file, e.want)
	}
}

func TestBankOf(t *testing.T) {
	m := imageOf(3)
	for _, e := range []struct{ n, bank int }{
		{0, 0}, {1, 1}, {2, 2}, {3, 0}, {4, 1}, {5, 2}, {300, 0},
		{-1, 2}, {-2, 1}, {-3, 0}, {-4, 2}, {-300, 0},
		{math.MaxInt, 1}, // 2^63 is 2 by 3, so one less is 1
		{math.MinInt, 1}, // -2^63 is -2 by 3, so 1 from 0 on
	} {
		if got := impl.BankOf(m, e.n); !slices.Equal(got, m.Banks[e.bank]) {
			t.Errorf("BankOf(3 banks, %d) is not bank %d", e.n, e.bank)
		}
	}
	one := imageOf(1)
	for _, n := range []int{0, 1, -1, math.MinInt, math.MaxInt} {
		if got := impl.BankOf(one, n); !slices.Equal(got, one.Banks[0]) {
			t.Errorf("BankOf(one bank, %d) is not that one", n)
		}
	}
	eight := imageOf(8)
	for _, e := range []struct{ n, bank int }{{7, 7}, {8, 0}, {-1, 7}, {math.MinInt, 0}, {math.MaxInt, 7}} {
		if got := impl.BankOf(eight, e.n); !slices.Equal(got, eight.Banks[e.bank]) {
			t.Errorf("BankOf(8 banks, %d) is not bank %d", e.n, e.bank)
		}
	}
	for name, m := range wrongImages() {
		for _, n := range []int{0, 1, -1, math.MinInt, math.MaxInt} {
			if got := impl.BankOf(m, n); len(got) != 0 {
				t.Errorf("%s: BankOf %d has %d bytes", name, n, len(got))
			}
		}
	}
}

// roomyImage is an image whose lists all have spare room behind them, and a way to see whether that was written into.
func roomyImage() (impl.Image, func() bool) {
	m := imageOf(2)
	rows := make([][]int, 2, 4)
	for i, bank := range m.Banks {
		room := make([]int, 256, 512)
		copy(room, bank)
		rows[i] = room
	}
	m.Banks = rows
	return m, func() bool {
		if rows[:4][2] != nil || rows[:4][3] != nil {
			return false
		}
		for _, row := range rows {
			if slices.Max(row[256:512]) != 0 || slices.Min(row[256:512]) != 0 {
				return false
			}
		}
		return true
	}
}

func TestImageArgumentsStayAsTheyWere(t *testing.T) {
	m, clean := roomyImage()
	was := copyImage(m)
	file := slices.Grow(impl.ImageBytes(m), 600)
	wasFile := slices.Clone(file[:cap(file)])
	impl.ImageOk(m)
	impl.ImageBytes(m)
	impl.BankOf(m, 1)
	impl.ImageRead(file)
	impl.ImageRead(file[:100])
	if !sameImage(m, was) || !clean() {
		t.Error("an image that was handed in was written into")
	}
	if !slices.Equal(file[:cap(file)], wasFile) {
		t.Error("a file that was handed in was written into")
	}
}

func TestImageAnswersAreNewMemory(t *testing.T) {
	m := imageOf(3)
	was := copyImage(m)
	file := impl.ImageBytes(m)
	wasFile := slices.Clone(file)
	bank, again := impl.BankOf(m, 1), impl.BankOf(m, 1)
	read, _ := impl.ImageRead(file)
	for _, b := range m.Banks {
		b[0], b[255] = 77, 78
	}
	if !slices.Equal(file, wasFile) || !slices.Equal(bank, was.Banks[1]) {
		t.Error("an answer changed with its image")
	}
	clear(file)
	if !sameImage(read, was) {
		t.Error("an image changed with the file that it was read from")
	}
	clear(bank)
	if !slices.Equal(again, was.Banks[1]) {
		t.Error("a bank changed with another answer")
	}
}

func TestImageBanksShareNothing(t *testing.T) {
	was := imageOf(3)
	for n := range 3 {
		read, _ := impl.ImageRead(fileOf(was))
		clear(read.Banks[n])
		read.Banks[n] = append(read.Banks[n], 1, 2, 3)
		for k := range 3 {
			if k != n && !slices.Equal(read.Banks[k], was.Banks[k]) {
				t.Errorf("bank %d changed with bank %d", k, n)
			}
		}
	}
}
