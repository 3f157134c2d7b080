package tests

import (
	"bytes"
	"fmt"
	"math"
	"runtime"
	"slices"
	"strings"
	"sync"
	"testing"

	"loop.example/g00231/impl"
)

// noColours are numbers that no dot has; some of them are right ones as a byte, by 64, or in 32 bits.
var noColours = []int{-1, 64, math.MinInt, math.MaxInt, -2, 65, 63 - 64, 127, 128, 255, 256, 300, -48, -208, -256, 1 << 31, 1 << 32, 1<<32 + 5, math.MinInt + 1, math.MaxInt - 1}

// colourBytes are the bytes of 0 to 63, written by hand.
const colourBytes = "0123456789:;<=>?@ABCDEFGHIJKLMNOPQRSTUVWXYZ[\\]^_`abcdefghijklmno"

// wantFrameText is for a right picture: dot by dot, with a byte 10 behind each eighth one.
func wantFrameText(f []int) string {
	var text []byte
	for n, v := range f {
		text = append(text, colourBytes[v])
		if n%8 == 7 {
			text = append(text, 10)
		}
	}
	return string(text)
}

// wantFrameRead goes through a text byte by byte.
func wantFrameRead(s string) ([]int, bool) {
	if len(s) != 54 {
		return nil, false
	}
	var f []int
	for n := range 54 {
		switch at := strings.IndexByte(colourBytes, s[n]); {
		case n%9 == 8 && s[n] == 10:
		case n%9 != 8 && at >= 0:
			f = append(f, at)
		default:
			return nil, false
		}
	}
	return f, true
}

func pictureWith(f []int, at, v int) []int {
	f = slices.Clone(f)
	f[at] = v
	return f
}

// mixedPicture is another picture for each seed, of any numbers from 0 to 63.
func mixedPicture(seed int) []int {
	state, f := uint64(seed)*2862933555777941757+3037000493, make([]int, 48)
	for n := range f {
		state = state*6364136223846793005 + 1442695040888963407
		f[n] = int(state >> 58)
	}
	return f
}

// somePictures: each number at each place, all the same, the least and the greatest, and mixed ones.
func somePictures() [][]int {
	var all [][]int
	for v := range 64 {
		all = append(all, slices.Repeat([]int{v}, 48))
		turned := make([]int, 48)
		for at := range turned {
			turned[at] = (at + v) % 64
			all = append(all, pictureWith(make([]int, 48), at, v), pictureWith(slices.Repeat([]int{63}, 48), at, v))
		}
		all = append(all, turned)
	}
	for seed := range 300 {
		all = append(all, mixedPicture(seed))
	}
	return all
}

// checkPicture is P19 of a right picture.
func checkPicture(t *testing.T, f []int) {
	t.Helper()
	was := slices.Clone(f)
	s := impl.FrameText(f)
	if want := wantFrameText(was); s != want {
		t.Fatalf("FrameText(%v) = %q, want %q", was, s, want)
	}
	if back, ok := impl.FrameRead(s); !ok || !slices.Equal(back, was) {
		t.Fatalf("FrameRead(%q) = %v, %v, want %v", s, back, ok, was)
	}
	if !slices.Equal(f, was) {
		t.Fatalf("the picture is %v, was %v", f, was)
	}
}

func checkNoPicture(t *testing.T, what string, f []int) {
	t.Helper()
	was := slices.Clone(f)
	if got := impl.FrameText(f); got != "" {
		t.Fatalf("%s: FrameText(%v) = %q", what, was, got)
	}
	if !slices.Equal(f, was) {
		t.Fatalf("%s: the list is %v, was %v", what, f, was)
	}
}

// checkFrameRead is P19 of any text: what is read from it has that text, or else nothing is.
func checkFrameRead(t *testing.T, what, s string) bool {
	t.Helper()
	want, wantOk := wantFrameRead(s)
	got, ok := impl.FrameRead(s)
	if ok != wantOk || !slices.Equal(got, want) {
		t.Fatalf("%s: FrameRead(%q) = %v, %v, want %v, %v", what, s, got, ok, want, wantOk)
	}
	if ok && impl.FrameText(got) != s {
		t.Fatalf("%s: read from %q, and told %q", what, s, impl.FrameText(got))
	}
	if !ok && len(got) != 0 {
		t.Fatalf("%s: no picture, but %v", what, got)
	}
	return ok
}

func checkNoText(t *testing.T, what, s string) {
	t.Helper()
	if checkFrameRead(t, what, s) {
		t.Fatalf("%s: a picture is read from %q", what, s)
	}
}

func TestFrameTextByHand(t *testing.T) {
	counted := make([]int, 48)
	for n := range counted {
		counted[n] = n
	}
	corners := make([]int, 48)
	corners[0], corners[7], corners[8], corners[40], corners[47] = 1, 63, 10, 62, 17
	for _, e := range []struct {
		f    []int
		want string
	}{
		{make([]int, 48), "00000000\n00000000\n00000000\n00000000\n00000000\n00000000\n"},
		{slices.Repeat([]int{63}, 48), "oooooooo\noooooooo\noooooooo\noooooooo\noooooooo\noooooooo\n"},
		{counted, "01234567\n89:;<=>?\n@ABCDEFG\nHIJKLMNO\nPQRSTUVW\nXYZ[\\]^_\n"},
		{corners, "1000000o\n:0000000\n00000000\n00000000\n00000000\nn000000A\n"},
	} {
		if got := impl.FrameText(e.f); got != e.want {
			t.Errorf("FrameText(%v) = %q, want %q", e.f, got, e.want)
		}
		if got, ok := impl.FrameRead(e.want); !ok || !slices.Equal(got, e.f) {
			t.Errorf("FrameRead(%q) = %v, %v, want %v", e.want, got, ok, e.f)
		}
	}
	last := []byte{
		111, 110, 109, 108, 107, 106, 105, 104, 10, 103, 102, 101, 100, 99, 98, 97, 96, 10, 95, 94, 93, 92, 91, 90, 89, 88, 10,
		87, 86, 85, 84, 83, 82, 81, 80, 10, 79, 78, 77, 76, 75, 74, 73, 72, 10, 71, 70, 69, 68, 67, 66, 65, 64, 10,
	}
	down := make([]int, 48)
	for n := range down {
		down[n] = 63 - n
	}
	if got := impl.FrameText(down); got != string(last) {
		t.Errorf("byte by byte: %v, want %v", []byte(got), last)
	}
}

func TestP19APictureIsReadFromItsTextAsItWas(t *testing.T) {
	seen := map[string]bool{}
	for _, f := range somePictures() {
		checkPicture(t, f)
		seen[impl.FrameText(f)] = true
	}
	if len(seen) < 6000 { // no two pictures have one text
		t.Errorf("only %d texts", len(seen))
	}
	run, _ := impl.LockRun(looping(t, "ldi 9\nsta 8196\nldi 35\nsta 8196\nsta 8193\ninx\nsax 8197\njmp 49152\n"), 3000)
	if len(run.Obs.Frames) < 100 {
		t.Fatalf("only %d pictures", len(run.Obs.Frames))
	}
	for _, f := range run.Obs.Frames {
		checkPicture(t, f)
	}
}

func TestFrameTextOfOtherLengths(t *testing.T) {
	for _, many := range []int{0, 1, 7, 8, 9, 16, 40, 46, 47, 49, 50, 54, 56, 64, 96, 5000} {
		for _, v := range []int{0, 1, 63} {
			checkNoPicture(t, fmt.Sprint(many, " numbers"), slices.Repeat([]int{v}, many))
		}
		checkNoPicture(t, fmt.Sprint(many, " numbers, the last one none"), append(slices.Repeat([]int{5}, max(many-1, 0)), 64)[:many])
	}
	checkNoPicture(t, "nil", nil)
	room := mixedPicture(1)
	checkNoPicture(t, "one too few, with the last one in the room behind", room[:47])
	checkNoPicture(t, "nothing, with a picture in the room behind", room[:0])
	checkNoPicture(t, "one too few, and a room behind", append(room, 3)[1:48])
	checkPicture(t, append(mixedPicture(2), 64, -1)[:48])
}

func TestFrameTextOfNoColour(t *testing.T) {
	for at := range 48 {
		for _, v := range noColours {
			for seed := range 3 {
				checkNoPicture(t, fmt.Sprint(v, " at ", at), pictureWith(mixedPicture(seed), at, v))
			}
			checkNoPicture(t, fmt.Sprint(v, " at ", at, " and behind"), append(slices.Repeat([]int{9}, at), slices.Repeat([]int{v}, 48-at)...))
		}
		checkPicture(t, pictureWith(mixedPicture(4), at, 0))
		checkPicture(t, pictureWith(mixedPicture(4), at, 63))
	}
}

// TestFrameReadOfEachByte at each place: 64 of them are a picture's where a dot is asked, one where a line ends.
func TestFrameReadOfEachByte(t *testing.T) {
	for _, f := range [][]int{make([]int, 48), slices.Repeat([]int{63}, 48), mixedPicture(3)} {
		text := []byte(wantFrameText(f))
		for at := range text {
			many := 0
			for b := range 256 {
				other := slices.Clone(text)
				other[at] = byte(b)
				many += one(checkFrameRead(t, fmt.Sprint("byte ", b, " at ", at), string(other)))
			}
			if want := 64 - 63*one(at%9 == 8); many != want {
				t.Fatalf("at %d there are %d bytes right, want %d", at, many, want)
			}
		}
	}
}

func TestFrameReadOfWrongBytes(t *testing.T) {
	text := []byte(wantFrameText(mixedPicture(5)))
	for at := range text {
		for _, b := range []byte{47, 112, 0, 128, 255, 13, 32, 9, 11} {
			other := slices.Clone(text)
			other[at] = b
			checkNoText(t, fmt.Sprint("byte ", b, " at ", at), string(other))
		}
		if at%9 == 8 {
			for _, b := range []byte{48, 111, 100} {
				other := slices.Clone(text)
				other[at] = b
				checkNoText(t, fmt.Sprint("a dot for an end of line at ", at), string(other))
			}
			continue
		}
		other := slices.Clone(text)
		other[at] = 10
		checkNoText(t, fmt.Sprint("an end of line at ", at), string(other))
	}
	for at := range 53 { // two bytes turned, of which just one is an end of line
		if at%9 >= 7 {
			other := slices.Clone(text)
			other[at], other[at+1] = other[at+1], other[at]
			checkNoText(t, fmt.Sprint("turned at ", at), string(other))
		}
	}
}

func TestFrameReadOfOtherLengths(t *testing.T) {
	for seed := range 5 {
		text := wantFrameText(mixedPicture(seed))
		for cut := range 54 {
			checkNoText(t, fmt.Sprint("cut at ", cut), text[:cut])
			checkNoText(t, fmt.Sprint("from ", cut+1), text[cut+1:])
			checkNoText(t, fmt.Sprint("without byte ", cut), text[:cut]+text[cut+1:])
			for _, b := range []string{"0", "o", "\n", "\x00", "\xff", "\r", " "} {
				checkNoText(t, fmt.Sprintf("with %q at %d", b, cut), text[:cut]+b+text[cut:])
			}
		}
		for _, behind := range []string{"0", "\n", "\r\n", "\n\n", "\x00", "00000000\n", text} {
			checkNoText(t, "with more behind", text+behind)
		}
	}
}

func TestFrameReadOfEndsOfLines(t *testing.T) {
	line, f := "0123abco", slices.Repeat([]int{0, 1, 2, 3, 49, 50, 51, 63}, 6)
	if got, ok := impl.FrameRead(strings.Repeat(line+"\n", 6)); !ok || !slices.Equal(got, f) {
		t.Errorf("six lines: %v, %v", got, ok)
	}
	for what, s := range map[string]string{
		"empty":                      "",
		"no last end":                strings.Repeat(line+"\n", 5) + line,
		"a dot for the last end":     strings.Repeat(line+"\n", 5) + line + "0",
		"two ends at the end":        strings.Repeat(line+"\n", 6) + "\n",
		"two ends, of right length":  strings.Repeat(line+"\n", 5) + line[:7] + "\n\n",
		"13 and 10":                  strings.Repeat(line+"\r\n", 6),
		"13 and 10 at the last":      strings.Repeat(line+"\n", 5) + line + "\r\n",
		"13 and 10 at the first":     line + "\r\n" + strings.Repeat(line+"\n", 5),
		"13 and 10, of right length": strings.Repeat(line[:7]+"\r\n", 6),
		"13 alone":                   strings.Repeat(line+"\r", 6),
		"no ends":                    strings.Repeat(line, 6),
		"no ends, of right length":   strings.Repeat("0", 54),
		"just ends":                  strings.Repeat("\n", 54),
		"ends ahead":                 strings.Repeat("\n"+line, 6),
		"lines of 9, 5 of them":      strings.Repeat(line+"0\n", 5) + "000\n",
		"lines of 7":                 strings.Repeat(line[:7]+"\n", 6),
		"lines of 5, 9 of them":      strings.Repeat(line[:5]+"\n", 9),
		"five lines":                 strings.Repeat(line+"\n", 5),
		"seven lines":                strings.Repeat(line+"\n", 7),
		"48 lines":                   strings.Repeat("0\n", 48),
		"an empty line ahead":        "\n" + strings.Repeat(line+"\n", 6),
		"an empty line between":      line + "\n\n" + strings.Repeat(line+"\n", 5),
		"blanks between":             strings.Repeat(line+" ", 6),
		"runes of two bytes":         strings.Repeat("0123ab\u00e9\n", 6),
		"runes of two bytes, more":   strings.Repeat("0123abc\u00e9\n", 6),
		"a mark ahead":               "\ufeff" + strings.Repeat(line+"\n", 6),
	} {
		checkNoText(t, what, s)
	}
}

// TestFrameReadOfMixedTexts: some bytes of a picture's text turned, doubled, left out or turned round, again and again.
func TestFrameReadOfMixedTexts(t *testing.T) {
	state := uint64(19)
	next := func(by int) int {
		state = state*6364136223846793005 + 1442695040888963407
		return int(state >> 33 % uint64(by))
	}
	marks := []byte{10, 48, 111, 47, 112, 0, 255, 13, 64, 90}
	read, refused := 0, 0
	for range 20000 {
		text := []byte(wantFrameText(mixedPicture(next(1000))))
		for range next(3) {
			a, b := next(len(text)), next(len(text))
			switch next(6) {
			case 0:
				text[a] = marks[next(len(marks))]
			case 1:
				text[a] = byte(next(256))
			case 2:
				text[a], text[b] = text[b], text[a]
			case 3:
				text = slices.Insert(text, a, text[b])
			case 4:
				text = slices.Delete(text, a, a+1)
			case 5:
				text = slices.Insert(slices.Delete(text, a, a+1), min(b, len(text)-1), marks[next(len(marks))])
			}
		}
		ok := checkFrameRead(t, "mixed", string(text))
		read, refused = read+one(ok), refused+one(!ok)
	}
	if read < 5000 || refused < 5000 {
		t.Errorf("%d are read, %d refused", read, refused)
	}
}

func TestToneText(t *testing.T) {
	for _, e := range []struct {
		list []int
		want string
	}{
		{nil, ""}, {[]int{}, ""}, {[]int{0}, "-"}, {[]int{8}, "^"}, {[]int{0, 8, 3}, "-^?"}, {[]int{8, 0, 0, 8}, "^--^"},
		{[]int{-1, 1, 7, 9, math.MinInt, math.MaxInt}, "??????"},
		{[]int{-1, 0, 1, 2, 3, 4, 5, 6, 7, 8, 9, 10}, "?-???????^??"},
		{[]int{-8, 16, 80, 256, 264, -256, -248, 1 << 32, 1<<32 + 8, 45, 94, 63, 48, 56}, "??????????????"},
		{[]int{math.MaxInt, 8, math.MinInt, 0, math.MinInt + 8, 8}, "?^?-?^"},
	} {
		was := slices.Clone(e.list)
		if got := impl.ToneText(e.list); got != e.want {
			t.Errorf("ToneText(%v) = %q, want %q", was, got, e.want)
		}
		if !slices.Equal(e.list, was) {
			t.Errorf("the list is %v, was %v", e.list, was)
		}
	}
}

// TestToneTextOfLongLists, one byte each, in order.
func TestToneTextOfLongLists(t *testing.T) {
	for v := -300; v <= 300; v++ {
		want := map[int]string{0: "-", 8: "^"}[v]
		if want == "" {
			want = "?"
		}
		if got := impl.ToneText([]int{v}); got != want {
			t.Fatalf("of %d: %q, want %q", v, got, want)
		}
	}
	for _, many := range []int{1, 2, 1250, 100000} {
		var list []int
		var want strings.Builder
		for n := range many {
			list = append(list, []int{0, 8, 8, 5, 0}[n*n%5])
			want.WriteByte("-^^?-"[n*n%5])
		}
		if got := impl.ToneText(list); got != want.String() {
			t.Errorf("a list of %d has another text, of %d bytes", many, len(got))
		}
	}
	run, _ := impl.LockRun(looping(t, "ldi 20\nsta 16384\nldi 31\nsta 16385\ninx\nsax 8192\njmp 49152\n"), 3000)
	got := impl.ToneText(run.Obs.Samples)
	if len(got) != len(run.Obs.Samples) || strings.Trim(got, "-^") != "" || !strings.Contains(got, "-") || !strings.Contains(got, "^") {
		t.Errorf("a tone is %q of %v", got, run.Obs.Samples)
	}
}

func TestCpuTextByHand(t *testing.T) {
	for _, e := range []struct {
		c    impl.Cpu
		want string
	}{
		{impl.Cpu{}, "A0 X0 S0 Pc0 -"},
		{impl.Cpu{A: 5, S: 255, Pc: 49152, C: true, N: true}, "A5 X0 S255 Pc49152 CN"},
		{impl.Cpu{A: 255, X: 255, S: 255, Pc: 65535, Z: true, N: true, C: true, I: true}, "A255 X255 S255 Pc65535 CZIN"},
		{impl.Cpu{A: 1, X: 2, S: 3, Pc: 4, C: true}, "A1 X2 S3 Pc4 C"},
		{impl.Cpu{A: 9, X: 10, S: 11, Pc: 12, Z: true}, "A9 X10 S11 Pc12 Z"},
		{impl.Cpu{A: 99, X: 100, S: 101, Pc: 102, I: true}, "A99 X100 S101 Pc102 I"},
		{impl.Cpu{A: 127, X: 128, S: 129, Pc: 9999, N: true}, "A127 X128 S129 Pc9999 N"},
		{impl.Cpu{Pc: 999, C: true, Z: true}, "A0 X0 S0 Pc999 CZ"},
		{impl.Cpu{Pc: 1000, C: true, I: true}, "A0 X0 S0 Pc1000 CI"},
		{impl.Cpu{Pc: 10000, Z: true, I: true}, "A0 X0 S0 Pc10000 ZI"},
		{impl.Cpu{Pc: 12345, Z: true, N: true}, "A0 X0 S0 Pc12345 ZN"},
		{impl.Cpu{Pc: 8, I: true, N: true}, "A0 X0 S0 Pc8 IN"},
		{impl.Cpu{X: 7, Z: true, N: true, I: true}, "A0 X7 S0 Pc0 ZIN"},
		{impl.Cpu{X: 77, C: true, N: true, I: true}, "A0 X77 S0 Pc0 CIN"},
		{impl.Cpu{X: 177, C: true, N: true, Z: true}, "A0 X177 S0 Pc0 CZN"},
		{impl.Cpu{S: 30, C: true, I: true, Z: true}, "A0 X0 S30 Pc0 CZI"},
	} {
		if got := impl.CpuText(e.c); got != e.want {
			t.Errorf("CpuText(%+v) = %q, want %q", e.c, got, e.want)
		}
	}
}

// flagWords are the letters of flagSets, set by set, written by hand.
var flagWords = []string{"-", "C", "Z", "CZ", "I", "CI", "ZI", "CZI", "N", "CN", "ZN", "CZN", "IN", "CIN", "ZIN", "CZIN"}

// checkCpuText asks with each set of flags, as none of them makes a processor right or wrong.
func checkCpuText(t *testing.T, c impl.Cpu, right bool) {
	t.Helper()
	for n, f := range flagSets {
		c.C, c.Z, c.I, c.N = f.c, f.z, f.i, f.n
		want := ""
		if right {
			want = fmt.Sprintf("A%d X%d S%d Pc%d %s", c.A, c.X, c.S, c.Pc, flagWords[n])
		}
		if got := impl.CpuText(c); got != want {
			t.Fatalf("CpuText(%+v) = %q, want %q", c, got, want)
		}
	}
}

func TestCpuTextOfAllRegisters(t *testing.T) {
	for _, a := range byteRegister {
		for _, x := range byteRegister {
			for _, s := range byteRegister {
				for _, pc := range addrRegister {
					checkCpuText(t, impl.Cpu{A: a.x, X: x.x, S: s.x, Pc: pc.x}, a.right && x.right && s.right && pc.right)
				}
			}
		}
	}
}

func TestCpuTextOfEachNumber(t *testing.T) {
	for v := range 256 {
		checkCpuText(t, impl.Cpu{A: v, X: 255 - v, S: (v + 100) % 256, Pc: v}, true)
	}
	for pc := 0; pc < 65536; pc += 7 {
		checkCpuText(t, impl.Cpu{Pc: pc}, true)
	}
	for _, pc := range []int{9, 10, 99, 100, 999, 1000, 9999, 10000, 65535} {
		checkCpuText(t, impl.Cpu{A: 3, Pc: pc}, true)
	}
}

// TestCpuTextOfOneWrongRegister: below and above what it may be, with all others right.
func TestCpuTextOfOneWrongRegister(t *testing.T) {
	for _, v := range []int{-1, 256, -256, 65536, 1 << 32, 1<<32 + 9, math.MinInt, math.MinInt + 1, math.MaxInt} {
		c := impl.Cpu{A: 1, X: 2, S: 3, Pc: 4}
		a, x, s, pc := c, c, c, c
		a.A, x.X, s.S, pc.Pc = v, v, v, v
		checkCpuText(t, a, false)
		checkCpuText(t, x, false)
		checkCpuText(t, s, false)
		checkCpuText(t, pc, v == 256)
	}
}

// someTexts are of pictures, and of none.
func someTexts() []string {
	text := wantFrameText(mixedPicture(6))
	return []string{text, wantFrameText(make([]int, 48)), "", text[:53], text + "0", "/" + text[1:], text[:53] + "p", strings.Repeat("o", 54)}
}

// someLists are pictures, and none.
func someLists() [][]int {
	return [][]int{nil, {}, {0, 8, 3}, mixedPicture(7), make([]int, 48), mixedPicture(8)[:47], append(mixedPicture(9), 0), pictureWith(mixedPicture(9), 20, 64), pictureWith(mixedPicture(9), 47, -1)}
}

// TestShownListsAreNotChanged, nor the room behind them, which is not looked at.
func TestShownListsAreNotChanged(t *testing.T) {
	for _, list := range someLists() {
		x, clean := roomyMem(list, 0)
		if got, want := impl.FrameText(x.Ram), impl.FrameText(slices.Clone(list)); got != want {
			t.Errorf("FrameText of %v: with room behind %q, without %q", list, got, want)
		}
		if got, want := impl.ToneText(x.Ram), impl.ToneText(slices.Clone(list)); got != want || len(got) != len(list) {
			t.Errorf("ToneText of %v: with room behind %q, without %q", list, got, want)
		}
		if !slices.Equal(x.Ram, list) || !clean() {
			t.Errorf("%v is %v, or the room behind is written into", list, x.Ram)
		}
	}
}

// TestShownAnswersAreNewMemory: each list that is read is one of its own, with its room, also one of nothing.
func TestShownAnswersAreNewMemory(t *testing.T) {
	for _, s := range someTexts() {
		bytesWere := []byte(s)
		got, ok := impl.FrameRead(s)
		again, _ := impl.FrameRead(s)
		want := slices.Clone(got)
		spoil(got, -7)
		if !slices.Equal(again, want) || !bytes.Equal([]byte(s), bytesWere) {
			t.Fatalf("of %q: one answer turned with another, or the text", s)
		}
		spare := again[:cap(again)]
		if slices.Contains(spare, -7) {
			t.Fatalf("of %q: two answers share a room", s)
		}
		if later, okLater := impl.FrameRead(s); okLater != ok || !slices.Equal(later, want) {
			t.Fatalf("of %q: another answer, %v", s, later)
		}
	}
	f := mixedPicture(10)
	s := impl.FrameText(f)
	tone := impl.ToneText(f)
	wantTone := strings.Clone(tone)
	spoil(f, 1)
	if s != wantFrameText(mixedPicture(10)) || tone != wantTone {
		t.Error("a text turned with its list")
	}
}

// TestNothingIsLeftOfWhatIsRefused: of a text that is no picture's the room of the answer tells nothing.
func TestNothingIsLeftOfWhatIsRefused(t *testing.T) {
	for _, s := range someTexts() {
		got, ok := impl.FrameRead(s)
		if room := got[:cap(got)]; !ok && slices.ContainsFunc(room, func(v int) bool { return v != 0 }) {
			t.Errorf("of %q there is left %v", s, room)
		}
	}
}

// TestShownAnswersHangOnNoGoroutine: the same asked again and again, by many at a time, however many run at once.
func TestShownAnswersHangOnNoGoroutine(t *testing.T) {
	texts, lists, cpus := someTexts(), someLists(), someCpus()
	ask := func() string {
		var told []string
		for _, s := range texts {
			f, ok := impl.FrameRead(s)
			told = append(told, fmt.Sprint(f, ok))
		}
		for _, list := range lists {
			told = append(told, impl.FrameText(list), impl.ToneText(list))
		}
		for _, c := range cpus {
			told = append(told, impl.CpuText(c))
		}
		return strings.Join(told, "\n")
	}
	want := ask()
	for _, procs := range []int{1, 2, 8} {
		before := runtime.GOMAXPROCS(procs)
		var all sync.WaitGroup
		for range 8 {
			all.Go(func() {
				for range 20 {
					if got := ask(); got != want {
						t.Errorf("another answer: %q, want %q", got, want)
					}
				}
			})
		}
		all.Wait()
		runtime.GOMAXPROCS(before)
	}
}
