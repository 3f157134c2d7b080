package tests

import (
	"math"
	"slices"
	"testing"

	"loop.example/g00231/impl"
)

var (
	bothHelds = []bool{false, true}
	padOdds   = []int{1, 3, 127, 255, 257, 65537, -1, -3, -255, -257, math.MinInt + 1, math.MaxInt, math.MaxInt - 2}
	padEvens  = []int{0, 2, 4, 128, 254, 256, 258, 65536, -2, -4, -256, math.MinInt, math.MinInt + 2, math.MaxInt - 1}
	padTimes  = []int{
		math.MinInt, math.MinInt + 1, -20000, -65, -64, -63, -1,
		0, 1, 47, 48, 62, 63, 64, 65, 126, 127, 128, 129, 191, 192, 1215, 1216, 1279, 1280, 1281, 1343, 1344,
		19967, 19968, 19999, 20000, 20001, 20031, 20032, 1 << 32, math.MaxInt - 64, math.MaxInt - 63, math.MaxInt - 1, math.MaxInt,
	}
	// padShifts are bytes first, then numbers that no right pad has.
	padShifts = []int{0, 1, 2, 3, 127, 128, 129, 170, 254, 255, 256, 257, -1, -2, -3, -256, math.MinInt, math.MinInt + 1, math.MaxInt, math.MaxInt - 1}
)

// padsOf are so many bytes, no two of them alike.
func padsOf(many int) []int {
	list := make([]int, many)
	for i := range list {
		list[i] = (i*37 + 129) % 256
	}
	return list
}

func rightPads() [][]int {
	lists := [][]int{nil, {}, {0}, {255}, {0, 0}, {5, 130}, {255, 0, 255}, slices.Repeat([]int{255}, 20), slices.Repeat([]int{0}, 20)}
	for many := 1; many <= 20; many++ {
		lists = append(lists, padsOf(many))
	}
	return lists
}

// wrongPads are too long, or have a number at one place that is no byte.
func wrongPads() [][]int {
	lists := [][]int{padsOf(21), padsOf(22), padsOf(40), padsOf(256), slices.Repeat([]int{0}, 21), append(padsOf(20), -1), append(padsOf(20), 256)}
	for _, v := range []int{-1, 256, 257, -255, -256, 1 << 32, math.MinInt, math.MinInt + 1, math.MaxInt} {
		for _, many := range []int{1, 2, 7, 20, 21} {
			for _, at := range []int{0, many / 2, many - 1} {
				list := padsOf(many)
				list[at] = v
				lists = append(lists, list)
			}
		}
	}
	return lists
}

// turnsOf tells how often t is gone on by 64, by halves alone.
func turnsOf(t int) int {
	if t < 0 {
		return 0
	}
	for range 6 {
		t = (t - t%2) / 2
	}
	return t
}

// wantPadAt is for a right list.
func wantPadAt(pads []int, t int) int {
	if len(pads) == 0 {
		return 0
	}
	return pads[turnsOf(t)%len(pads)]
}

func checkPadAt(t *testing.T, pads []int, at int, want int) {
	t.Helper()
	if got := impl.PadAt(pads, at); got != want {
		t.Fatalf("PadAt(%v, %d) = %d; want %d", pads, at, got, want)
	}
}

func checkPadWrite(t *testing.T, x impl.Pad, pads []int, at int, v int, want impl.Pad) impl.Pad {
	t.Helper()
	got := impl.PadWrite(x, pads, at, v)
	if got != want {
		t.Fatalf("PadWrite(%+v, %v, %d, %d) = %+v; want %+v", x, pads, at, v, got, want)
	}
	return got
}

func checkPadRead(t *testing.T, x impl.Pad, pads []int, at int, want impl.Pad, wantBit int) impl.Pad {
	t.Helper()
	got, bit := impl.PadRead(x, pads, at)
	if got != want || bit != wantBit {
		t.Fatalf("PadRead(%+v, %v, %d) = %+v, %d; want %+v, %d", x, pads, at, got, bit, want, wantBit)
	}
	return got
}

// bitAndHalf: what is left of a number by 2, and the half of what that is taken from.
func bitAndHalf(x int) (int, int) {
	left := leftBy(x, 2)
	return left, (x - left) / 2
}

func TestPadConstants(t *testing.T) {
	if impl.MaxPads != 20 {
		t.Error(impl.MaxPads)
	}
}

func TestPadsOk(t *testing.T) {
	for _, pads := range rightPads() {
		if !impl.PadsOk(pads) {
			t.Errorf("PadsOk(%v) = false", pads)
		}
	}
	for _, pads := range wrongPads() {
		if impl.PadsOk(pads) {
			t.Errorf("PadsOk(%v) = true", pads)
		}
	}
}

func TestPadsOkOfEachNumber(t *testing.T) {
	for v := -600; v < 900; v++ {
		if impl.PadsOk([]int{v}) != (v >= 0 && v <= 255) {
			t.Errorf("PadsOk of %d", v)
		}
	}
	for many := range 100 {
		if impl.PadsOk(make([]int, many)) != (many <= 20) {
			t.Errorf("PadsOk of %d bytes", many)
		}
	}
}

func TestPadAtByHand(t *testing.T) {
	two, most := []int{5, 130}, padsOf(20)
	for _, e := range []struct {
		pads     []int
		at, want int
	}{
		{nil, -1, 0}, {nil, 0, 0}, {nil, 63, 0}, {nil, 64, 0}, {nil, 20000, 0}, {nil, math.MinInt, 0}, {nil, math.MaxInt, 0}, {[]int{}, 3, 0},
		{[]int{9}, -1, 9}, {[]int{9}, 0, 9}, {[]int{9}, 63, 9}, {[]int{9}, 64, 9}, {[]int{9}, 20000, 9}, {[]int{9}, math.MinInt, 9}, {[]int{9}, math.MaxInt, 9},
		{two, -1, 5}, {two, -64, 5}, {two, -65, 5}, {two, 0, 5}, {two, 63, 5}, {two, 64, 130}, {two, 127, 130}, {two, 128, 5}, {two, 191, 5}, {two, 192, 130},
		{two, 20000, 5}, {two, math.MinInt, 5}, {two, math.MaxInt, 130},
		{most, -1, 129}, {most, 0, 129}, {most, 63, 129}, {most, 64, 166}, {most, 1215, 27}, {most, 1216, 64}, {most, 1279, 64}, {most, 1280, 129},
		{most, 20000, 61}, {most, math.MinInt, 129}, {most, math.MaxInt, 24},
		{padsOf(21), 0, 0}, {padsOf(21), 64, 0}, {[]int{-1}, 0, 0}, {[]int{256}, 0, 0}, {[]int{7, 256}, 0, 0}, {[]int{7, 8, -1}, 64, 0},
	} {
		checkPadAt(t, e.pads, e.at, e.want)
	}
}

func TestPadAtOfEachList(t *testing.T) {
	for _, pads := range rightPads() {
		for _, at := range padTimes {
			checkPadAt(t, pads, at, wantPadAt(pads, at))
		}
		end := 64 * len(pads)
		if end > 0 {
			checkPadAt(t, pads, end-1, pads[len(pads)-1])
			checkPadAt(t, pads, end, pads[0])
		}
	}
	for _, pads := range wrongPads() {
		for _, at := range padTimes {
			checkPadAt(t, pads, at, 0)
		}
	}
}

// TestPadAtAtEachTime: each byte lasts 64 cycles, and behind the last one the first comes again.
func TestPadAtAtEachTime(t *testing.T) {
	for _, pads := range rightPads() {
		if len(pads) == 0 {
			continue
		}
		which, left := 0, 64
		for at := range 20100 {
			if left == 0 {
				which, left = which+1, 64
			}
			if which == len(pads) {
				which = 0
			}
			left--
			checkPadAt(t, pads, at, pads[which])
		}
	}
}

func TestPadWriteByHand(t *testing.T) {
	two := []int{5, 130}
	for _, e := range []struct {
		x     impl.Pad
		at, v int
		want  impl.Pad
	}{
		{impl.Pad{}, 0, 0, impl.Pad{}},
		{impl.Pad{}, 0, 1, impl.Pad{Held: true, Shift: 5}},
		{impl.Pad{}, 64, 1, impl.Pad{Held: true, Shift: 130}},
		{impl.Pad{Shift: 77}, 0, 0, impl.Pad{Shift: 77}},
		{impl.Pad{Shift: 77}, 0, 1, impl.Pad{Held: true, Shift: 5}},
		{impl.Pad{Held: true, Shift: 77}, 0, 0, impl.Pad{Shift: 5}},
		{impl.Pad{Held: true, Shift: 77}, 0, 1, impl.Pad{Held: true, Shift: 5}},
		{impl.Pad{Held: true, Shift: 5}, 70, 0, impl.Pad{Shift: 130}},
		{impl.Pad{Held: true, Shift: 5}, 70, 1, impl.Pad{Held: true, Shift: 130}},
		{impl.Pad{Shift: 77}, -1, -1, impl.Pad{Held: true, Shift: 5}},
		{impl.Pad{Shift: 77}, -1, -2, impl.Pad{Shift: 77}},
		{impl.Pad{Held: true, Shift: 77}, 64, -1, impl.Pad{Held: true, Shift: 130}},
		{impl.Pad{Held: true, Shift: 77}, 64, -2, impl.Pad{Shift: 130}},
		{impl.Pad{Shift: 77}, 64, math.MinInt, impl.Pad{Shift: 77}},
		{impl.Pad{Shift: 77}, 64, math.MaxInt, impl.Pad{Held: true, Shift: 130}},
		{impl.Pad{Held: true, Shift: 77}, math.MaxInt, math.MinInt, impl.Pad{Shift: 130}},
		{impl.Pad{Held: true, Shift: 77}, math.MinInt, math.MaxInt, impl.Pad{Held: true, Shift: 5}},
	} {
		checkPadWrite(t, e.x, two, e.at, e.v, e.want)
	}
}

// checkWrites: a pad is held by what is odd, let go by what is even, and only one that was not held stays as it is then.
func checkWrites(t *testing.T, pads []int, at int, pressed int) {
	t.Helper()
	for _, shift := range padShifts {
		for _, held := range bothHelds {
			for _, v := range padOdds {
				checkPadWrite(t, impl.Pad{Held: held, Shift: shift}, pads, at, v, impl.Pad{Held: true, Shift: pressed})
			}
		}
		for _, v := range padEvens {
			checkPadWrite(t, impl.Pad{Held: true, Shift: shift}, pads, at, v, impl.Pad{Shift: pressed})
			checkPadWrite(t, impl.Pad{Shift: shift}, pads, at, v, impl.Pad{Shift: shift})
		}
	}
}

func TestPadWriteOfEachKind(t *testing.T) {
	for _, pads := range rightPads() {
		for _, at := range padTimes {
			checkWrites(t, pads, at, wantPadAt(pads, at))
		}
	}
	for _, pads := range wrongPads() {
		for _, at := range []int{-1, 0, 64, 20000, math.MinInt, math.MaxInt} {
			checkWrites(t, pads, at, 0)
		}
	}
}

func TestPadReadByHand(t *testing.T) {
	two := []int{5, 130}
	for _, e := range []struct {
		x    impl.Pad
		at   int
		want impl.Pad
		bit  int
	}{
		{impl.Pad{}, 0, impl.Pad{}, 0},
		{impl.Pad{Shift: 1}, 0, impl.Pad{}, 1},
		{impl.Pad{Shift: 128}, 0, impl.Pad{Shift: 64}, 0},
		{impl.Pad{Shift: 255}, 0, impl.Pad{Shift: 127}, 1},
		{impl.Pad{Shift: 254}, 64, impl.Pad{Shift: 127}, 0},
		{impl.Pad{Shift: 3}, math.MinInt, impl.Pad{Shift: 1}, 1},
		{impl.Pad{Held: true}, 0, impl.Pad{Held: true, Shift: 5}, 1},
		{impl.Pad{Held: true}, 64, impl.Pad{Held: true, Shift: 130}, 0},
		{impl.Pad{Held: true, Shift: 1}, 64, impl.Pad{Held: true, Shift: 130}, 0},
		{impl.Pad{Held: true, Shift: 1}, 128, impl.Pad{Held: true, Shift: 5}, 1},
		{impl.Pad{Held: true, Shift: 128}, 63, impl.Pad{Held: true, Shift: 5}, 1},
		{impl.Pad{Held: true, Shift: 255}, 127, impl.Pad{Held: true, Shift: 130}, 0},
		{impl.Pad{Held: true, Shift: 255}, -1, impl.Pad{Held: true, Shift: 5}, 1},
		{impl.Pad{Held: true, Shift: 255}, math.MaxInt, impl.Pad{Held: true, Shift: 130}, 0},
		// a Shift that is no byte: the lowest bit, and a half that is rounded down, all the same
		{impl.Pad{Shift: 256}, 0, impl.Pad{Shift: 128}, 0},
		{impl.Pad{Shift: -1}, 0, impl.Pad{Shift: -1}, 1},
		{impl.Pad{Shift: -2}, 0, impl.Pad{Shift: -1}, 0},
		{impl.Pad{Shift: -3}, 0, impl.Pad{Shift: -2}, 1},
		{impl.Pad{Shift: math.MinInt}, 0, impl.Pad{Shift: -1 << 62}, 0},
		{impl.Pad{Shift: math.MaxInt}, 0, impl.Pad{Shift: 1<<62 - 1}, 1},
	} {
		checkPadRead(t, e.x, two, e.at, e.want, e.bit)
	}
}

func checkReads(t *testing.T, pads []int, at int, pressed int) {
	t.Helper()
	for _, shift := range padShifts {
		bit, rest := bitAndHalf(shift)
		checkPadRead(t, impl.Pad{Shift: shift}, pads, at, impl.Pad{Shift: rest}, bit)
		checkPadRead(t, impl.Pad{Held: true, Shift: shift}, pads, at, impl.Pad{Held: true, Shift: pressed}, pressed%2)
	}
}

func TestPadReadOfEachKind(t *testing.T) {
	for _, pads := range rightPads() {
		for _, at := range padTimes {
			checkReads(t, pads, at, wantPadAt(pads, at))
		}
	}
	for _, pads := range wrongPads() {
		for _, at := range []int{-1, 0, 64, 20000, math.MinInt, math.MaxInt} {
			checkReads(t, pads, at, 0)
		}
	}
}

func TestPadReadOfEachByte(t *testing.T) {
	for b := range 256 {
		for _, at := range []int{0, 63, 64, 20000} {
			checkPadRead(t, impl.Pad{Shift: b}, []int{^b & 255}, at, impl.Pad{Shift: b / 2}, b%2)
			checkPadRead(t, impl.Pad{Held: true, Shift: ^b & 255}, []int{b}, at, impl.Pad{Held: true, Shift: b}, b%2)
		}
	}
}

// bitsBy are the eight bits of a byte, the lowest first.
func bitsBy(b int) []int {
	var list []int
	for range 8 {
		list = append(list, b%2)
		b /= 2
	}
	return list
}

// tellsThenNothing: the eight bits of a byte, and 0 behind them, whatever is pressed meanwhile.
func tellsThenNothing(t *testing.T, x impl.Pad, pads []int, times []int, b int) {
	t.Helper()
	want := append(bitsBy(b), 0, 0, 0, 0, 0, 0, 0, 0, 0)
	for n, bit := range want {
		next, got := impl.PadRead(x, pads, times[n%len(times)])
		if got != bit || next.Held {
			t.Fatalf("byte %d: read %d at %d tells %d, %+v", b, n, times[n%len(times)], got, next)
		}
		x = next
	}
	if x != (impl.Pad{}) {
		t.Fatalf("byte %d: %+v is left", b, x)
	}
}

// TestEightReadsTellAllEightBits is P11: the byte is pressed in one Period, just others ahead of it and behind it.
func TestEightReadsTellAllEightBits(t *testing.T) {
	readTimes := [][]int{
		{0}, {64}, {128}, {63, 64, 127, 128, 191, 192}, {20000}, {math.MaxInt, math.MinInt}, {-1, 0, 1},
		{0, 64, 128, 192, 256, 320, 384, 448, 512, 576, 640},
	}
	for b := range 256 {
		for _, pads := range [][]int{{^b & 255, b, b ^ 85}, {b ^ 1, b}, {b ^ 128, b, b ^ 64, b ^ 2}, {255, b, 0}, {0, b, 255}} {
			for _, start := range []impl.Pad{{}, {Shift: 255}, {Held: true, Shift: 255}, {Held: true}} {
				for _, letGo := range []int{64, 65, 100, 127} {
					for _, heldAt := range []int{0, 63, 64, letGo} {
						held := impl.PadWrite(start, pads, heldAt, 1)
						free := checkPadWrite(t, held, pads, letGo, 0, impl.Pad{Shift: b})
						for _, times := range readTimes {
							tellsThenNothing(t, free, pads, times, b)
						}
					}
				}
			}
		}
	}
}

// TestReadsWhileHeldLoseNothing: however often it is read while it is held, all eight bits are told when it is let go.
func TestReadsWhileHeldLoseNothing(t *testing.T) {
	for b := range 256 {
		pads := []int{b, ^b & 255}
		for many := range 12 {
			x := impl.PadWrite(impl.Pad{}, pads, 70, 1)
			for n := range many {
				x, _ = impl.PadRead(x, pads, 60+n)
			}
			tellsThenNothing(t, impl.PadWrite(x, pads, 128, 2), pads, []int{128, 192}, b)
			tellsThenNothing(t, impl.PadWrite(x, pads, 192, 2), pads, []int{128, 192}, ^b&255)
		}
	}
}

// TestAHeldPadTellsTheLowestBit again and again, of what is pressed at the time of each read.
func TestAHeldPadTellsTheLowestBit(t *testing.T) {
	for b := range 256 {
		pads := []int{b, b ^ 1, b ^ 254}
		x := impl.PadWrite(impl.Pad{Shift: b ^ 255}, pads, 0, 1)
		for at := range 600 {
			for range 3 {
				pressed := pads[at/64%3]
				x = checkPadRead(t, x, pads, at, impl.Pad{Held: true, Shift: pressed}, pressed%2)
			}
		}
	}
}

// TestAPadThatIsNotHeldKeepsItsBits: what is even, written to it, begins nothing anew.
func TestAPadThatIsNotHeldKeepsItsBits(t *testing.T) {
	pads := []int{0, 255}
	for b := range 256 {
		x := impl.Pad{Shift: b}
		for n, bit := range bitsBy(b) {
			for _, v := range padEvens {
				x = checkPadWrite(t, x, pads, 64*n, v, x)
			}
			x = checkPadRead(t, x, pads, 64*n, impl.Pad{Shift: x.Shift / 2}, bit)
		}
	}
}

// TestPadsAreApart: of two pads that are read by turns neither hears of the other.
func TestPadsAreApart(t *testing.T) {
	pads := []int{7}
	for b := range 256 {
		x, y := impl.Pad{Shift: b}, impl.Pad{Shift: ^b & 255}
		for _, bit := range bitsBy(b) {
			again := x
			x = checkPadRead(t, x, pads, 0, impl.Pad{Shift: x.Shift / 2}, bit)
			y = checkPadRead(t, y, pads, 0, impl.Pad{Shift: y.Shift / 2}, 1-bit)
			checkPadRead(t, again, pads, 0, x, bit)
		}
	}
}

// wantPadRow holds a pad by its bits, one behind the other, and no number.
type wantPadRow struct {
	held bool
	bits []int
}

func (w *wantPadRow) write(pressed int, v int) {
	was := w.held
	w.held = leftBy(v, 2) == 1
	if was || w.held {
		w.bits = bitsBy(pressed)
	}
}

func (w *wantPadRow) read(pressed int) int {
	if w.held {
		w.bits = bitsBy(pressed)
		return w.bits[0]
	}
	bit := w.bits[0]
	w.bits = append(w.bits[1:], 0)
	return bit
}

// TestRowsOfReadsAndWrites goes over long rows of both, with the time going on.
func TestRowsOfReadsAndWrites(t *testing.T) {
	for seed := range 40 {
		row := mixedBytes(seed+1, 4096)
		for n, v := range row {
			row[n] = leftBy(v, 256)
		}
		pads := slices.Clone(row[:1+seed%20])
		x, w := impl.Pad{}, &wantPadRow{bits: bitsBy(0)}
		for n, at := 0, 0; n < 4095; n++ {
			deed, v := row[n], row[n+1]
			at += deed % 9
			pressed := pads[at/64%len(pads)]
			if deed < 10 {
				x = impl.PadWrite(x, pads, at, v-128)
				w.write(pressed, v-128)
			} else {
				next, bit := impl.PadRead(x, pads, at)
				if want := w.read(pressed); bit != want {
					t.Fatalf("row %d, deed %d: PadRead(%+v, .., %d) tells %d", seed, n, x, at, bit)
				}
				x = next
			}
			if x.Held != w.held || !slices.Equal(bitsBy(x.Shift), w.bits) || x.Shift < 0 || x.Shift > 255 {
				t.Fatalf("row %d, deed %d: %+v, want %+v", seed, n, x, *w)
			}
		}
	}
}

// TestNoListOfPadsIsChanged, nor the room behind it.
func TestNoListOfPadsIsChanged(t *testing.T) {
	for _, list := range append(rightPads(), wrongPads()...) {
		room := append(slices.Clone(list), 11, 22, 33, 44)
		before := slices.Clone(room)
		pads := room[:len(list)]
		for _, at := range padTimes {
			impl.PadsOk(pads)
			impl.PadAt(pads, at)
			for _, held := range bothHelds {
				x := impl.Pad{Held: held, Shift: 171}
				for _, v := range []int{0, 1, -1, math.MinInt, math.MaxInt} {
					impl.PadWrite(x, pads, at, v)
				}
				impl.PadRead(x, pads, at)
				if x != (impl.Pad{Held: held, Shift: 171}) {
					t.Fatalf("the pad is %+v", x)
				}
			}
		}
		if !slices.Equal(room, before) {
			t.Errorf("%v became %v", before, room)
		}
	}
}

// TestAPadKeepsNoList: what is done with a list later is nothing to the pad.
func TestAPadKeepsNoList(t *testing.T) {
	pads := []int{5, 130}
	x := impl.PadWrite(impl.Pad{}, pads, 64, 1)
	x = impl.PadWrite(x, pads, 64, 0)
	spoil(pads, 255)
	tellsThenNothing(t, x, pads, []int{64}, 130)
}
