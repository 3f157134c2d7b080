package tests

import (
	"math"
	"slices"
	"testing"

	"loop.example/g00231/impl"
)

// regionTable: from where to where each region is, and by what it repeats, written by hand; in order, without a gap.
var regionTable = []struct{ from, to, region, by int }{
	{0, 8191, impl.RgRam, 512},
	{8192, 16383, impl.RgPicture, 8},
	{16384, 16387, impl.RgSound, 4},
	{16388, 16405, impl.RgOpen, 1},
	{16406, 16406, impl.RgPad, 1},
	{16407, 32767, impl.RgOpen, 1},
	{32768, 49151, impl.RgBank, 256},
	{49152, 65535, impl.RgLast, 256},
}

// wantRegion is the region and the part of an address by regionTable.
func wantRegion(addr int) (int, int) {
	for _, row := range regionTable {
		if addr >= row.from && addr <= row.to {
			return row.region, addr % row.by
		}
	}
	return 0, -1
}

// someAddrs: the first and the last address of each region and their neighbours, and the ends of what repeats.
var someAddrs = []int{
	-1, 0, 1, 255, 256, 511, 512, 1023, 7680, 8191,
	8192, 8199, 8200, 16383,
	16384, 16385, 16387, 16388,
	16405, 16406, 16407,
	20000, 32767,
	32768, 32768 + impl.BankSize - 1, 32768 + impl.BankSize, 49151,
	49152, 49152 + impl.BankSize, 65280, 65530, 65535,
	65536, 65536 + 8191, -65536, -16384, -32768, 1 << 40,
	math.MinInt, math.MinInt + 32768, math.MaxInt - 49151, math.MaxInt - 16384, math.MaxInt,
}

// fullMem is a right Mem without a 0, no two of whose neighbours are alike, and neither are its halves.
func fullMem(bank int) impl.Mem {
	x := impl.Mem{Ram: make([]int, 512), Bank: bank}
	for i := range x.Ram {
		x.Ram[i] = 1 + (i*7+i/256*3)%255
	}
	return x
}

func copyOfMem(x impl.Mem) impl.Mem {
	return impl.Mem{Ram: slices.Clone(x.Ram), Bank: x.Bank}
}

func sameMem(a, b impl.Mem) bool {
	return a.Bank == b.Bank && slices.Equal(a.Ram, b.Ram)
}

// ramWith is fullMem with a number at a place.
func ramWith(at int, v int) []int {
	x := fullMem(0)
	x.Ram[at] = v
	return x.Ram
}

// wrongRams are lists that are no RamSize bytes, each by one fault.
func wrongRams() map[string][]int {
	full := fullMem(0).Ram
	return map[string][]int{
		"nil":                  nil,
		"empty":                {},
		"one byte":             {9},
		"256 bytes":            full[:256:256],
		"one too short":        full[:511:511],
		"one too short, roomy": fullMem(0).Ram[:511],
		"one too long":         append(fullMem(0).Ram, 1),
		"twice as long":        append(fullMem(0).Ram, full...),
		"-1 first":             ramWith(0, -1),
		"-1 in the stack":      ramWith(300, -1),
		"-1 last":              ramWith(511, -1),
		"256 first":            ramWith(0, 256),
		"256 in the stack":     ramWith(256, 256),
		"256 last":             ramWith(511, 256),
		"the least":            ramWith(17, math.MinInt),
		"the greatest":         ramWith(511, math.MaxInt),
	}
}

// wrongMems are those that are not MemOk of any right image, each by one fault; with three banks.
func wrongMems() map[string]impl.Mem {
	wrong := map[string]impl.Mem{}
	for name, ram := range wrongRams() {
		wrong["Ram "+name] = impl.Mem{Ram: ram, Bank: 1}
	}
	for name, bank := range map[string]int{"-1": -1, "-3": -3, "3": 3, "4": 4, "256": 256, "the least": math.MinInt, "the greatest": math.MaxInt} {
		wrong["Bank "+name] = fullMem(bank)
	}
	return wrong
}

func TestMemConstants(t *testing.T) {
	if impl.RamSize != 512 {
		t.Error("RamSize", impl.RamSize)
	}
	codes := []int{impl.RgRam, impl.RgPicture, impl.RgSound, impl.RgPad, impl.RgBank, impl.RgLast, impl.RgOpen}
	if !slices.Equal(codes, []int{1, 2, 3, 4, 5, 6, 7}) {
		t.Error("codes", codes)
	}
}

func TestMemNew(t *testing.T) {
	x, y := impl.MemNew(), impl.MemNew()
	if !sameMem(x, impl.Mem{Ram: make([]int, 512)}) {
		t.Errorf("MemNew() = %v", x)
	}
	for n := 1; n <= impl.MaxBanks; n++ {
		if !impl.MemOk(imageOf(n), x) {
			t.Errorf("MemNew is not MemOk with %d banks", n)
		}
	}
	for i := range x.Ram {
		x.Ram[i] = 1 + i%255
	}
	if slices.Max(y.Ram) != 0 || slices.Max(impl.MemNew().Ram) != 0 {
		t.Error("one MemNew changed with another")
	}
}

func TestMemOk(t *testing.T) {
	edges := impl.MemNew()
	edges.Ram[0], edges.Ram[511] = 255, 255
	for n := 1; n <= impl.MaxBanks; n++ {
		m := imageOf(n)
		for bank := -2; bank <= n+1; bank++ {
			if got, want := impl.MemOk(m, fullMem(bank)), bank >= 0 && bank < n; got != want {
				t.Errorf("MemOk with %d banks and Bank %d = %v", n, bank, got)
			}
		}
		for _, bank := range []int{256, -256, 1 << 32, math.MinInt, math.MaxInt} {
			if impl.MemOk(m, fullMem(bank)) {
				t.Errorf("MemOk with %d banks and Bank %d", n, bank)
			}
		}
		if !impl.MemOk(m, edges) {
			t.Errorf("%d banks: a Ram of 0 and 255 is not MemOk", n)
		}
	}
	for name, x := range wrongMems() {
		if impl.MemOk(imageOf(3), x) {
			t.Errorf("%s: MemOk", name)
		}
	}
	for name, m := range wrongImages() {
		if impl.MemOk(m, fullMem(0)) || impl.MemOk(m, fullMem(1)) || impl.MemOk(m, impl.MemNew()) {
			t.Errorf("%s: MemOk", name)
		}
	}
	if impl.MemOk(impl.Image{}, impl.Mem{}) || impl.MemOk(imageOf(1), impl.Mem{}) {
		t.Error("a Mem of nothing is MemOk")
	}
}

func TestRegionAtEdges(t *testing.T) {
	for _, e := range []struct{ addr, region, part int }{
		{-1, impl.RgLast, 255},
		{0, impl.RgRam, 0},
		{1, impl.RgRam, 1},
		{511, impl.RgRam, 511},
		{512, impl.RgRam, 0},
		{513, impl.RgRam, 1},
		{8191, impl.RgRam, 511},
		{8192, impl.RgPicture, 0},
		{8199, impl.RgPicture, 7},
		{8200, impl.RgPicture, 0},
		{16383, impl.RgPicture, 7},
		{16384, impl.RgSound, 0},
		{16387, impl.RgSound, 3},
		{16388, impl.RgOpen, 0},
		{16389, impl.RgOpen, 0},
		{16405, impl.RgOpen, 0},
		{16406, impl.RgPad, 0},
		{16407, impl.RgOpen, 0},
		{16511, impl.RgOpen, 0},
		{32767, impl.RgOpen, 0},
		{32768, impl.RgBank, 0},
		{32768 + 255, impl.RgBank, 255},
		{32768 + impl.BankSize, impl.RgBank, 0},
		{49151, impl.RgBank, 255},
		{49152, impl.RgLast, 0},
		{49152 + 255, impl.RgLast, 255},
		{49152 + impl.BankSize, impl.RgLast, 0},
		{65535, impl.RgLast, 255},
		{65536, impl.RgRam, 0},
		{65536 + 16406, impl.RgPad, 0},
		{16406 - 65536, impl.RgPad, 0},
		{-16384, impl.RgLast, 0},
		{-16385, impl.RgBank, 255},
		{-32769, impl.RgOpen, 0},
		{-65536, impl.RgRam, 0},
		{math.MinInt, impl.RgRam, 0},
		{math.MinInt + 8193, impl.RgPicture, 1},
		{math.MaxInt, impl.RgLast, 255},
		{math.MaxInt - 65535, impl.RgRam, 0},
	} {
		if region, part := impl.Region(e.addr); region != e.region || part != e.part {
			t.Errorf("Region(%d) = %d, %d, want %d, %d", e.addr, region, part, e.region, e.part)
		}
	}
}

func TestP6EachAddressHasOneRegion(t *testing.T) {
	sizes := map[int]int{impl.RgRam: 512, impl.RgPicture: 8, impl.RgSound: 4, impl.RgPad: 1, impl.RgBank: 256, impl.RgLast: 256, impl.RgOpen: 1}
	parts := map[[2]int]bool{}
	for addr := range 65536 {
		region, part := wantRegion(addr)
		for _, far := range []int{0, 65536, -65536, 3 << 40, math.MinInt} {
			if r, p := impl.Region(addr + far); r != region || p != part {
				t.Fatalf("Region(%d) = %d, %d, want %d, %d", addr+far, r, p, region, part)
			}
		}
		if part < 0 || part >= sizes[region] {
			t.Fatalf("Region(%d) = %d, %d: the part is not within it", addr, region, part)
		}
		parts[[2]int{region, part}] = true
	}
	if many := 512 + 8 + 4 + 1 + 256 + 256 + 1; len(parts) != many {
		t.Errorf("%d parts of regions have an address, want %d", len(parts), many)
	}
}

// wantPeek is what is at an address of a right Mem, by the document's words.
func wantPeek(m impl.Image, x impl.Mem, addr int) int {
	region, part := wantRegion(addr)
	switch region {
	case impl.RgRam:
		return x.Ram[part]
	case impl.RgBank:
		return m.Banks[x.Bank][part]
	case impl.RgLast:
		return m.Banks[len(m.Banks)-1][part]
	}
	return 0
}

func TestPeekAtEachAddress(t *testing.T) {
	for _, e := range []struct{ banks, bank int }{{1, 0}, {2, 0}, {2, 1}, {3, 1}, {8, 0}, {8, 6}, {8, 7}} {
		m, x := imageOf(e.banks), fullMem(e.bank)
		for addr := range 65536 {
			if got, want := impl.Peek(m, x, addr), wantPeek(m, x, addr); got != want {
				t.Fatalf("%d banks, Bank %d: Peek at %d = %d, want %d", e.banks, e.bank, addr, got, want)
			}
		}
		for _, b := range byteEdges {
			if got, want := impl.Peek(m, x, b.x), wantPeek(m, x, b.asAddr); got != want {
				t.Errorf("%d banks, Bank %d: Peek at %d = %d, want %d", e.banks, e.bank, b.x, got, want)
			}
		}
	}
}

func TestPeekByHand(t *testing.T) {
	m := impl.Image{Banks: [][]int{make([]int, 256), make([]int, 256), make([]int, 256)}}
	m.Banks[0][0], m.Banks[1][0], m.Banks[2][0] = 10, 11, 12
	m.Banks[0][255], m.Banks[1][255], m.Banks[2][255] = 20, 21, 255
	x := impl.MemNew()
	x.Ram[0], x.Ram[7], x.Ram[511], x.Bank = 1, 7, 255, 1
	for _, e := range []struct{ addr, want int }{
		{0, 1}, {512, 1}, {7, 7}, {511, 255}, {8191, 255}, {1, 0},
		{8192, 0}, {8199, 0}, {16383, 0}, {16384, 0}, {16387, 0}, {16388, 0}, {16406, 0}, {20000, 0}, {32767, 0},
		{32768, 11}, {32768 + 255, 21}, {32768 + 256, 11}, {49151, 21},
		{49152, 12}, {49152 + 255, 255}, {65535, 255}, {-1, 255}, {65536, 1}, {math.MinInt, 1}, {math.MaxInt, 255},
	} {
		if got := impl.Peek(m, x, e.addr); got != e.want {
			t.Errorf("Peek at %d = %d, want %d", e.addr, got, e.want)
		}
	}
}

func TestPeekOfWhatIsNotMemOk(t *testing.T) {
	for _, addr := range someAddrs {
		for name, x := range wrongMems() {
			if got := impl.Peek(imageOf(3), x, addr); got != 0 {
				t.Errorf("%s: Peek at %d = %d, want 0", name, addr, got)
			}
		}
		for name, m := range wrongImages() {
			for _, bank := range []int{0, 1, 2} {
				if got := impl.Peek(m, fullMem(bank), addr); got != 0 {
					t.Errorf("%s: Peek at %d with Bank %d = %d, want 0", name, addr, bank, got)
				}
			}
		}
		if got := impl.Peek(impl.Image{}, impl.Mem{}, addr); got != 0 {
			t.Errorf("Peek of nothing at %d = %d, want 0", addr, got)
		}
	}
}

// checkPoke holds Poke against a Mem written down by hand, and sees that what was handed in stays.
func checkPoke(t *testing.T, m impl.Image, x impl.Mem, addr int, v int, want impl.Mem) impl.Mem {
	t.Helper()
	was := copyOfMem(x)
	got := impl.Poke(m, x, addr, v)
	if !sameMem(got, want) {
		t.Fatalf("%d banks, Bank %d: Poke at %d of %d: Bank %d, Ram %v, want Bank %d, Ram %v", len(m.Banks), x.Bank, addr, v, got.Bank, got.Ram, want.Bank, want.Ram)
	}
	if !sameMem(x, was) {
		t.Fatalf("Poke at %d of %d wrote into its argument", addr, v)
	}
	return got
}

func TestP6WhatIsPutIsThere(t *testing.T) {
	m, x := imageOf(2), fullMem(1)
	for addr := range 8192 {
		v := (addr*5 + addr/512) % 256
		want := copyOfMem(x)
		want.Ram[addr%512] = v
		got := checkPoke(t, m, x, addr, v, want)
		for same := addr % 512; same < 8192; same += 512 {
			if there := impl.Peek(m, got, same); there != v {
				t.Fatalf("%d put at %d, but %d is at %d", v, addr, there, same)
			}
		}
		for _, other := range []int{addr%512 ^ 1, addr%512 ^ 256, 32768 + addr%256, 49152 + addr%256} {
			if there := impl.Peek(m, got, other); there != wantPeek(m, x, other) {
				t.Fatalf("put at %d, but %d at %d is another one", addr, there, other)
			}
		}
	}
}

func TestP6AllThatIsPutIsThere(t *testing.T) {
	m, x := imageOf(3), impl.MemNew()
	put := fullMem(0).Ram
	for i, v := range put {
		x = impl.Poke(m, x, i+512*(i%16)-65536*(i%3), v)
	}
	for addr := range 8192 {
		if there := impl.Peek(m, x, addr); there != put[addr%512] {
			t.Fatalf("%d at %d, want %d", there, addr, put[addr%512])
		}
	}
}

func TestPokeBeyondAByteAndAnAddress(t *testing.T) {
	m, x := imageOf(3), fullMem(1)
	for _, at := range []struct{ addr, place int }{
		{0, 0}, {511, 511}, {512, 0}, {8191, 511}, {65536, 0}, {65536 + 300, 300}, {-65536, 0}, {-65536 + 8191, 511}, {math.MinInt, 0}, {math.MaxInt - 65535 + 513, 1},
	} {
		for _, e := range byteEdges {
			want := copyOfMem(x)
			want.Ram[at.place] = e.asByte
			got := checkPoke(t, m, x, at.addr, e.x, want)
			if there := impl.Peek(m, got, at.addr); there != e.asByte {
				t.Fatalf("%d put at %d, but %d is there, want %d", e.x, at.addr, there, e.asByte)
			}
		}
	}
}

// leftOf says by plain counting what is left of a byte by how many banks there are.
func leftOf(v int, banks int) int {
	for v >= banks {
		v -= banks
	}
	return v
}

// checkSwitched: v at addr switches the bank in that was wanted, all else stays, and that bank is seen there.
func checkSwitched(t *testing.T, m impl.Image, x impl.Mem, addr int, v int, asByte int) {
	t.Helper()
	want := copyOfMem(x)
	want.Bank = leftOf(asByte, len(m.Banks))
	got := checkPoke(t, m, x, addr, v, want)
	if !impl.MemOk(m, got) {
		t.Fatalf("%d banks: Poke at %d of %d is not MemOk", len(m.Banks), addr, v)
	}
	for _, part := range []int{0, 100, 248, 255} {
		if there := impl.Peek(m, got, 32768+part); there != m.Banks[want.Bank][part] {
			t.Fatalf("%d banks: behind Poke at %d of %d: %d at part %d of the bank", len(m.Banks), addr, v, there, part)
		}
		if there := impl.Peek(m, got, 49152+part); there != m.Banks[len(m.Banks)-1][part] {
			t.Fatalf("%d banks: behind Poke at %d of %d: %d at part %d of the last bank", len(m.Banks), addr, v, there, part)
		}
	}
}

func TestP6TheBankThatIsWantedIsSwitchedIn(t *testing.T) {
	for n := 1; n <= impl.MaxBanks; n++ {
		m := imageOf(n)
		for _, bank := range []int{0, n / 2, n - 1} {
			x := fullMem(bank)
			for v := -20; v <= 280; v++ {
				checkSwitched(t, m, x, 32768+v+20, v, wrapped(v))
				checkSwitched(t, m, x, 65535-v-20, v, wrapped(v))
			}
			for _, e := range byteEdges {
				for _, addr := range []int{32768, 32768 + impl.BankSize, 49151, 49152, 65535, -1, -32768, math.MaxInt} {
					checkSwitched(t, m, x, addr, e.x, e.asByte)
				}
			}
		}
	}
}

func TestPokeSwitchesAtEachAddressOfBothRegions(t *testing.T) {
	m, x := imageOf(5), fullMem(3)
	for addr := 32768; addr < 65536; addr++ {
		want := copyOfMem(x)
		want.Bank = leftOf(addr%256, 5)
		checkPoke(t, m, x, addr, addr, want)
	}
}

func TestPokeByHand(t *testing.T) {
	m := imageOf(3)
	for _, e := range []struct{ addr, v, bank int }{
		{32768, 0, 0}, {32768, 1, 1}, {32768, 2, 2}, {32768, 3, 0}, {49151, 4, 1}, {49152, 5, 2},
		{65535, 255, 0}, {32768, 256, 0}, {32768, 257, 1}, {32768, -1, 0}, {49152, -2, 2}, {49152, -256, 0},
		{32768, math.MinInt, 0}, {32768, math.MaxInt, 0}, {49152, math.MinInt + 1, 1}, {49152, math.MaxInt - 1, 2},
	} {
		want := fullMem(e.bank)
		checkPoke(t, m, fullMem(1), e.addr, e.v, want)
	}
}

func TestPokeElsewhereTurnsNothing(t *testing.T) {
	for _, e := range []struct{ banks, bank int }{{1, 0}, {3, 2}} {
		m, x := imageOf(e.banks), fullMem(e.bank)
		for addr := 8192; addr < 32768; addr++ {
			checkPoke(t, m, x, addr, 77+addr%100, x)
		}
		for _, addr := range []int{8192, 8196, 16383, 16384, 16387, 16388, 16405, 16406, 16407, 32767, 8192 - 65536, 65536 + 16406, math.MinInt + 16406, math.MaxInt - 32768} {
			for _, b := range byteEdges {
				checkPoke(t, m, x, addr, b.x, x)
			}
		}
	}
}

func TestPokeOfWhatIsNotMemOk(t *testing.T) {
	for _, addr := range someAddrs {
		for _, v := range []int{0, 1, 77, 255, -1, 256, math.MinInt, math.MaxInt} {
			for _, x := range wrongMems() {
				checkPoke(t, imageOf(3), x, addr, v, x)
			}
			for _, m := range wrongImages() {
				checkPoke(t, m, fullMem(0), addr, v, fullMem(0))
				checkPoke(t, m, fullMem(2), addr, v, fullMem(2))
			}
			checkPoke(t, impl.Image{}, impl.Mem{}, addr, v, impl.Mem{})
		}
	}
}

// checkPush holds Push of v at S against the place and the S that are wanted; all other registers and the flags stay.
func checkPush(t *testing.T, x impl.Mem, c impl.Cpu, v int, place int, asByte int, s int) (impl.Mem, impl.Cpu) {
	t.Helper()
	want, wantCpu := copyOfMem(x), c
	want.Ram[place] = asByte
	wantCpu.S = s
	was := copyOfMem(x)
	got, gotCpu := impl.Push(x, c, v)
	if !sameMem(got, want) || gotCpu != wantCpu {
		t.Fatalf("Push of %d with %+v: %+v, Ram %v, want %d at %d, and %+v", v, c, gotCpu, got.Ram, asByte, place, wantCpu)
	}
	if !sameMem(x, was) {
		t.Fatalf("Push of %d with %+v wrote into its argument", v, c)
	}
	return got, gotCpu
}

// checkPull holds Pull against the S and the byte that are wanted.
func checkPull(t *testing.T, x impl.Mem, c impl.Cpu, s int, v int) impl.Cpu {
	t.Helper()
	want := c
	want.S = s
	was := copyOfMem(x)
	got, gotV := impl.Pull(x, c)
	if got != want || gotV != v {
		t.Fatalf("Pull with %+v: %+v and %d, want %+v and %d", c, got, gotV, want, v)
	}
	if !sameMem(x, was) {
		t.Fatalf("Pull with %+v wrote into its argument", c)
	}
	return got
}

func TestPushAndPullByHand(t *testing.T) {
	full := fullMem(2)
	for _, e := range []struct{ s, place, less, more int }{
		{0, 256, 255, 1},
		{1, 257, 0, 2},
		{2, 258, 1, 3},
		{127, 383, 126, 128},
		{254, 510, 253, 255},
		{255, 511, 254, 0},
		{256, 256, 255, 1},
		{257, 257, 0, 2},
		{511, 511, 254, 0},
		{-1, 511, 254, 0},
		{-2, 510, 253, 255},
		{-256, 256, 255, 1},
		{math.MinInt, 256, 255, 1},
		{math.MinInt + 1, 257, 0, 2},
		{math.MaxInt, 511, 254, 0},
		{math.MaxInt - 1, 510, 253, 255},
	} {
		c := impl.Cpu{A: -1, X: 300, S: e.s, Pc: 65536, Z: true, N: true, I: true}
		checkPush(t, full, c, 9, e.place, 9, e.less)
		checkPush(t, full, c, -9, e.place, 247, e.less)
		checkPush(t, full, c, 256, e.place, 0, e.less)
		checkPush(t, full, c, math.MinInt, e.place, 0, e.less)
		checkPush(t, full, c, math.MaxInt, e.place, 255, e.less)
		checkPull(t, full, c, e.more, full.Ram[256+e.more])
	}
}

func TestP6WhatIsPushedIsPulled(t *testing.T) {
	x := fullMem(7)
	for s := range 256 {
		c := impl.Cpu{A: 1, X: 2, S: s, Pc: 3, C: s%2 == 0}
		for v := range 256 {
			pushed, down := checkPush(t, x, c, v, 256+s, v, wrapped(s-1))
			if up := checkPull(t, pushed, down, s, v); up != c {
				t.Fatalf("%d pushed and pulled with %+v: the processor is %+v", v, c, up)
			}
		}
	}
	for _, c := range someCpus() {
		s := impl.Byte(c.S)
		for _, e := range byteEdges {
			pushed, down := checkPush(t, x, c, e.x, 256+s, e.asByte, wrapped(s-1))
			checkPull(t, pushed, down, s, e.asByte)
		}
	}
}

// What is pushed is pulled in the other order, the whole stack round; the 257th goes where the first one was.
func TestP6ManyArePushedAndPulled(t *testing.T) {
	for _, from := range []int{255, 0, 1, 100} {
		x, c := impl.MemNew(), impl.Cpu{S: from}
		for i := range 256 {
			x, c = impl.Push(x, c, i*3+1000)
		}
		if c.S != from || !slices.Equal(x.Ram[:256], make([]int, 256)) {
			t.Fatalf("from %d: S is %d behind a whole round", from, c.S)
		}
		over, low := checkPush(t, x, c, 5, 256+from, 5, wrapped(from-1))
		checkPull(t, over, low, from, 5)
		for i := 255; i >= 0; i-- {
			c = checkPull(t, x, c, wrapped(c.S+1), wrapped(i*3+1000))
		}
		if c.S != from {
			t.Fatalf("from %d: S is %d behind all pulls", from, c.S)
		}
	}
}

// Memory's Bank has no say in the stack, as no image is handed in.
func TestPushAndPullWithAnyBank(t *testing.T) {
	for _, bank := range []int{-1, 0, 8, 256, math.MinInt, math.MaxInt} {
		x := fullMem(bank)
		pushed, c := checkPush(t, x, impl.Cpu{S: 255}, 99, 511, 99, 254)
		checkPull(t, pushed, c, 255, 99)
	}
}

func TestPushAndPullWithoutRamSizeBytes(t *testing.T) {
	for name, ram := range wrongRams() {
		for _, bank := range []int{0, -1, math.MaxInt} {
			for _, s := range []int{0, 1, 255, 256, -1, math.MinInt, math.MaxInt} {
				x := impl.Mem{Ram: ram, Bank: bank}
				was := copyOfMem(x)
				c := impl.Cpu{A: 300, X: -1, S: s, Pc: -5, N: true}
				for _, v := range []int{0, 9, 256, -1, math.MinInt, math.MaxInt} {
					if got, gotCpu := impl.Push(x, c, v); !sameMem(got, was) || gotCpu != c {
						t.Errorf("Ram %s: Push of %d with S %d: another Mem or %+v", name, v, s, gotCpu)
					}
				}
				if gotCpu, v := impl.Pull(x, c); gotCpu != c || v != 0 {
					t.Errorf("Ram %s: Pull with S %d: %+v and %d", name, s, gotCpu, v)
				}
				if !sameMem(x, was) {
					t.Errorf("Ram %s: an argument was written into", name)
				}
			}
		}
	}
}

// roomyMem is a Mem with spare room behind its Ram, and a way to see whether that was written into.
func roomyMem(ram []int, bank int) (impl.Mem, func() bool) {
	room := make([]int, len(ram), len(ram)+600)
	copy(room, ram)
	spare := room[len(ram):cap(room)]
	for i := range spare {
		spare[i] = 12345
	}
	return impl.Mem{Ram: room, Bank: bank}, func() bool {
		return slices.Max(spare) == 12345 && slices.Min(spare) == 12345
	}
}

func TestMemArgumentsStayAsTheyWere(t *testing.T) {
	full := fullMem(0).Ram
	for _, ram := range [][]int{full, full[:511], full[:256], full[:0]} {
		m, cleanImage := roomyImage()
		wasImage := copyImage(m)
		x, clean := roomyMem(ram, 1)
		was := copyOfMem(x)
		impl.MemOk(m, x)
		for _, addr := range someAddrs {
			impl.Peek(m, x, addr)
			impl.Poke(m, x, addr, 66)
		}
		for s := range 256 {
			impl.Push(x, impl.Cpu{S: s}, 66)
			impl.Pull(x, impl.Cpu{S: s})
		}
		if !sameMem(x, was) || !clean() {
			t.Errorf("a Mem of %d numbers that was handed in was written into", len(ram))
		}
		if !sameImage(m, wasImage) || !cleanImage() {
			t.Error("an image that was handed in was written into")
		}
	}
}

// checkNewMem: what an answer holds does not turn with the Mem it was made of, nor that with the answer.
func checkNewMem(t *testing.T, name string, x impl.Mem, answer func(impl.Mem) impl.Mem) {
	t.Helper()
	was := copyOfMem(x)
	got, again := answer(x), answer(x)
	wanted := copyOfMem(got)
	for i := range got.Ram {
		got.Ram[i] = -7
	}
	got.Ram = append(got.Ram, -7, -7)
	if !sameMem(x, was) {
		t.Errorf("%s: the argument turned with its answer", name)
	}
	if !sameMem(again, wanted) {
		t.Errorf("%s: one answer turned with another", name)
	}
	for i := range x.Ram {
		x.Ram[i] = -8
	}
	if !sameMem(again, wanted) {
		t.Errorf("%s: an answer turned with its argument", name)
	}
}

func TestMemAnswersAreNewMemory(t *testing.T) {
	rams := map[string]func() []int{
		"right":     func() []int { return fullMem(0).Ram },
		"too short": func() []int { return fullMem(0).Ram[:511] },
		"too long":  func() []int { return append(fullMem(0).Ram, 1) },
		"with 256":  func() []int { return ramWith(300, 256) },
		"empty":     func() []int { return fullMem(0).Ram[:0] },
	}
	for name, ram := range rams {
		for _, addr := range []int{0, 511, 8192, 16384, 16406, 20000, 32768, 65535} {
			checkNewMem(t, "Poke, Ram "+name, impl.Mem{Ram: ram(), Bank: 1}, func(x impl.Mem) impl.Mem {
				return impl.Poke(imageOf(2), x, addr, 5)
			})
			checkNewMem(t, "Poke without an image, Ram "+name, impl.Mem{Ram: ram(), Bank: 1}, func(x impl.Mem) impl.Mem {
				return impl.Poke(impl.Image{}, x, addr, 5)
			})
		}
		checkNewMem(t, "Push, Ram "+name, impl.Mem{Ram: ram(), Bank: 1}, func(x impl.Mem) impl.Mem {
			got, _ := impl.Push(x, impl.Cpu{S: 44}, 5)
			return got
		})
	}
}
