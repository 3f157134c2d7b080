package tests

import (
	"math"
	"slices"
	"testing"

	"loop.example/g00231/impl"
)

var (
	apuTimes   = []int{0, 1, 14, 15, 16, 17, 30, 31, 32, 33, 46, 47, 48, 63, 64, 65, 79, 96, 19967, 19968, 19983, 19984, 19998, 19999}
	apuLengths = []int{0, 1, 2, 3, 30, 31}
	apuRegs    = []int{-1, 0, 1, 2, 3, 4, 5, 7, 8, 128, 130, 254, 256, 258, -2, -254, math.MinInt, math.MinInt + 2, math.MaxInt, math.MaxInt - 1}
	apuBytes   = []int{
		math.MinInt, math.MinInt + 1, -257, -256, -255, -33, -32, -31, -2, -1,
		0, 1, 2, 3, 30, 31, 32, 33, 34, 63, 64, 65, 127, 128, 254, 255, 256, 257, 288, 300, math.MaxInt - 1, math.MaxInt,
	}
	beatEdges = []int{
		math.MinInt, math.MinInt + 1, -20000, -65, -64, -33, -32, -31, -2, -1,
		0, 1, 2, 30, 31, 32, 33, 34, 62, 63, 64, 65, 66, 95, 96, 97,
		19935, 19936, 19937, 19967, 19968, 19969, 19998, 19999, 20000, 20001, 20002, 20031, 20032, 20033, 20064,
		1 << 32, 1<<32 + 1, math.MaxInt - 31, math.MaxInt - 1, math.MaxInt,
	}
)

// apuAt is a right unit at a time, with nothing in it that is 0 or false but its time.
func apuAt(t int) impl.Apu {
	return impl.Apu{T: t, Period: 77, Count: 9, Bit: 1, Length: 17, Asks: true, Irq: true}
}

func apuWith(a impl.Apu, change func(*impl.Apu)) impl.Apu {
	change(&a)
	return a
}

// apuFields are the numbers of a unit, each with its greatest; their least is 0.
var apuFields = []struct {
	name     string
	of       func(*impl.Apu) *int
	greatest int
}{
	{"T", func(a *impl.Apu) *int { return &a.T }, 20000},
	{"Period", func(a *impl.Apu) *int { return &a.Period }, 255},
	{"Count", func(a *impl.Apu) *int { return &a.Count }, 255},
	{"Bit", func(a *impl.Apu) *int { return &a.Bit }, 1},
	{"Length", func(a *impl.Apu) *int { return &a.Length }, 31},
}

// wrongApus are units that are not right, each by one number.
func wrongApus() []impl.Apu {
	var wrong []impl.Apu
	for _, f := range apuFields {
		for _, v := range []int{-1, f.greatest + 1, -256, 1 << 32, math.MinInt, math.MinInt + 1, math.MaxInt} {
			for _, t := range []int{0, 15, 32, 20000} {
				wrong = append(wrong, apuWith(apuAt(t), func(a *impl.Apu) { *f.of(a) = v }))
			}
		}
	}
	return wrong
}

// eachApu hands over right units of all kinds at a time.
func eachApu(t int, see func(impl.Apu)) {
	for _, period := range []int{0, 1, 128, 255} {
		for _, count := range []int{0, 1, 2, 255} {
			for bit := range 2 {
				for _, length := range apuLengths {
					for flags := range 4 {
						see(impl.Apu{T: t, Period: period, Count: count, Bit: bit, Length: length, Asks: flags%2 == 1, Irq: flags/2 == 1})
					}
				}
			}
		}
	}
}

// beatsBy are all beats ahead of an end, by plain counting from the first cycle on.
func beatsBy(end int) []int {
	var list []int
	phase := 0
	for at := range end {
		if phase == 0 {
			list = append(list, at)
		}
		phase = (phase + 1) % 32
	}
	return list
}

// wantApuTick is for a right unit ahead of MaxTime; it writes each case out as a whole.
func wantApuTick(a impl.Apu) (impl.Apu, int, bool) {
	b := a
	b.T = a.T + 1
	switch {
	case a.Count > 0:
		b.Count = a.Count - 1
	case a.Length == 0:
		b.Count = a.Period
	default:
		b.Count, b.Bit = a.Period, []int{1, 0}[a.Bit]
	}
	switch a.T % 32 {
	case 0:
		b.Length = max(a.Length-1, 0)
		b.Irq = a.Irq || a.Asks && a.Length == 1
	case 15, 31:
		return b, []int{0, 8}[b.Bit] * min(a.Length, 1), true
	}
	return b, 0, false
}

func checkApuTick(t *testing.T, a, want impl.Apu, wantSample int, wantTold bool) {
	t.Helper()
	got, sample, told := impl.ApuTick(a)
	if got != want || sample != wantSample || told != wantTold {
		t.Fatalf("ApuTick(%+v) = %+v, %d, %v; want %+v, %d, %v", a, got, sample, told, want, wantSample, wantTold)
	}
}

func TestApuConstants(t *testing.T) {
	if impl.Beat != 32 || impl.Every != 16 {
		t.Error(impl.Beat, impl.Every)
	}
}

func TestApuOkOfOneNumber(t *testing.T) {
	for _, start := range []impl.Apu{{}, apuAt(0), apuAt(20000), {T: 20000, Period: 255, Count: 255, Bit: 1, Length: 31, Asks: true, Irq: true}} {
		for _, f := range apuFields {
			for _, v := range []int{0, 1, f.greatest - 1, f.greatest} {
				if a := apuWith(start, func(a *impl.Apu) { *f.of(a) = v }); !impl.ApuOk(a) {
					t.Errorf("ApuOk(%+v) = false", a)
				}
			}
			for _, v := range []int{-1, f.greatest + 1, f.greatest + 2, -f.greatest, -256, 256 * 256, 1 << 32, math.MinInt, math.MinInt + 1, math.MaxInt - 1, math.MaxInt} {
				if a := apuWith(start, func(a *impl.Apu) { *f.of(a) = v }); impl.ApuOk(a) {
					t.Errorf("ApuOk with %s %d", f.name, v)
				}
			}
		}
	}
}

func TestApuOkWithAnyFlag(t *testing.T) {
	for flags := range 4 {
		a := apuWith(apuAt(3), func(a *impl.Apu) { a.Asks, a.Irq = flags%2 == 1, flags/2 == 1 })
		if !impl.ApuOk(a) {
			t.Errorf("ApuOk(%+v) = false", a)
		}
	}
}

func TestApuOkOfWrongOnes(t *testing.T) {
	for _, a := range wrongApus() {
		if impl.ApuOk(a) {
			t.Errorf("ApuOk(%+v) = true", a)
		}
	}
}

func TestApuTickByHand(t *testing.T) {
	for _, e := range []struct {
		a, want impl.Apu
		sample  int
		told    bool
	}{
		// Count is 0 or not, away from beats and samples
		{impl.Apu{T: 1}, impl.Apu{T: 2}, 0, false},
		{impl.Apu{T: 1, Period: 5}, impl.Apu{T: 2, Period: 5, Count: 5}, 0, false},
		{impl.Apu{T: 1, Period: 5, Bit: 1}, impl.Apu{T: 2, Period: 5, Count: 5, Bit: 1}, 0, false},
		{impl.Apu{T: 1, Period: 5, Length: 1}, impl.Apu{T: 2, Period: 5, Count: 5, Bit: 1, Length: 1}, 0, false},
		{impl.Apu{T: 1, Period: 255, Bit: 1, Length: 31}, impl.Apu{T: 2, Period: 255, Count: 255, Length: 31}, 0, false},
		{impl.Apu{T: 1, Length: 2}, impl.Apu{T: 2, Bit: 1, Length: 2}, 0, false},
		{impl.Apu{T: 1, Period: 5, Count: 1, Length: 2}, impl.Apu{T: 2, Period: 5, Length: 2}, 0, false},
		{impl.Apu{T: 1, Period: 5, Count: 255, Bit: 1}, impl.Apu{T: 2, Period: 5, Count: 254, Bit: 1}, 0, false},
		// a beat: the tone still turns in its last cycle
		{impl.Apu{}, impl.Apu{T: 1}, 0, false},
		{impl.Apu{Asks: true}, impl.Apu{T: 1, Asks: true}, 0, false},
		{impl.Apu{Asks: true, Irq: true}, impl.Apu{T: 1, Asks: true, Irq: true}, 0, false},
		{impl.Apu{Irq: true, Length: 1, Count: 3}, impl.Apu{T: 1, Count: 2, Irq: true}, 0, false},
		{impl.Apu{Length: 1}, impl.Apu{T: 1, Bit: 1}, 0, false},
		{impl.Apu{T: 32, Period: 9, Length: 1, Asks: true}, impl.Apu{T: 33, Period: 9, Count: 9, Bit: 1, Asks: true, Irq: true}, 0, false},
		{impl.Apu{T: 32, Count: 1, Length: 1, Asks: true, Irq: true}, impl.Apu{T: 33, Asks: true, Irq: true}, 0, false},
		{impl.Apu{T: 32, Count: 1, Length: 2, Asks: true}, impl.Apu{T: 33, Length: 1, Asks: true}, 0, false},
		{impl.Apu{T: 32, Count: 1, Length: 2, Irq: true}, impl.Apu{T: 33, Length: 1, Irq: true}, 0, false},
		{impl.Apu{T: 19968, Count: 1, Length: 31}, impl.Apu{T: 19969, Length: 30}, 0, false},
		// no beat half a beat on
		{impl.Apu{T: 16, Count: 1, Length: 1, Asks: true}, impl.Apu{T: 17, Length: 1, Asks: true}, 0, false},
		// a sample: of the bit as it is turned then
		{impl.Apu{T: 15}, impl.Apu{T: 16}, 0, true},
		{impl.Apu{T: 15, Bit: 1}, impl.Apu{T: 16, Bit: 1}, 0, true},
		{impl.Apu{T: 15, Count: 4, Bit: 1}, impl.Apu{T: 16, Count: 3, Bit: 1}, 0, true},
		{impl.Apu{T: 15, Count: 4, Bit: 1, Length: 1}, impl.Apu{T: 16, Count: 3, Bit: 1, Length: 1}, 8, true},
		{impl.Apu{T: 15, Count: 4, Length: 1}, impl.Apu{T: 16, Count: 3, Length: 1}, 0, true},
		{impl.Apu{T: 15, Period: 4, Length: 31}, impl.Apu{T: 16, Period: 4, Count: 4, Bit: 1, Length: 31}, 8, true},
		{impl.Apu{T: 15, Period: 4, Bit: 1, Length: 31}, impl.Apu{T: 16, Period: 4, Count: 4, Length: 31}, 0, true},
		{impl.Apu{T: 31, Count: 1, Bit: 1, Length: 1, Asks: true}, impl.Apu{T: 32, Bit: 1, Length: 1, Asks: true}, 8, true},
		{impl.Apu{T: 14, Count: 1, Bit: 1, Length: 1}, impl.Apu{T: 15, Bit: 1, Length: 1}, 0, false},
		// the last cycle, and behind it
		{impl.Apu{T: 19999, Count: 1, Bit: 1, Length: 1}, impl.Apu{T: 20000, Bit: 1, Length: 1}, 8, true},
		{impl.Apu{T: 20000, Count: 1, Bit: 1, Length: 1, Asks: true}, impl.Apu{T: 20000, Count: 1, Bit: 1, Length: 1, Asks: true}, 0, false},
	} {
		checkApuTick(t, e.a, e.want, e.sample, e.told)
	}
}

func TestApuTickOfEachKind(t *testing.T) {
	for _, at := range apuTimes {
		eachApu(at, func(a impl.Apu) {
			want, sample, told := wantApuTick(a)
			checkApuTick(t, a, want, sample, told)
			if got, _, _ := impl.ApuTick(a); !impl.ApuOk(got) {
				t.Fatalf("ApuTick(%+v) is not ApuOk", a)
			}
		})
	}
}

func TestApuTickAtEachTime(t *testing.T) {
	for at := range 20000 {
		for _, length := range []int{0, 1, 2} {
			for _, count := range []int{0, 1} {
				a := impl.Apu{T: at, Period: 3, Count: count, Bit: 1, Length: length, Asks: true}
				want, sample, told := wantApuTick(a)
				checkApuTick(t, a, want, sample, told)
			}
		}
	}
}

func TestApuTickOfEachLength(t *testing.T) {
	for length := range 32 {
		for _, at := range []int{0, 15, 16, 31, 32, 33} {
			for bit := range 2 {
				a := impl.Apu{T: at, Period: 200, Bit: bit, Length: length, Asks: true}
				want, sample, told := wantApuTick(a)
				checkApuTick(t, a, want, sample, told)
			}
		}
	}
}

func TestApuTickAtMaxTime(t *testing.T) {
	eachApu(20000, func(a impl.Apu) { checkApuTick(t, a, a, 0, false) })
}

func TestApuTickOfWhatIsNotRight(t *testing.T) {
	for _, a := range wrongApus() {
		checkApuTick(t, a, impl.Apu{}, 0, false)
	}
}

// TestATone: its bit turns each Period and one cycles, from the first cycle on.
func TestATone(t *testing.T) {
	for _, period := range []int{0, 1, 2, 7, 15, 16, 100, 255} {
		a, bit, left := impl.Apu{Period: period}, 0, 0
		for at := range 20000 {
			a = impl.ApuWrite(a, 1, 31)
			if left == 0 {
				bit, left = 1-bit, period+1
			}
			left--
			next, sample, told := impl.ApuTick(a)
			if next.Bit != bit || told != (at%16 == 15) || sample != one(told)*8*bit {
				t.Fatalf("Period %d at %d: bit %d, %d, %v; want %d", period, at, next.Bit, sample, told, bit)
			}
			a = next
		}
		if a.T != 20000 {
			t.Errorf("behind all cycles it is %d", a.T)
		}
	}
}

// TestATuneEnds: so many beats as were written, and no sound behind them.
func TestATuneEnds(t *testing.T) {
	for length := range 32 {
		a := impl.ApuWrite(impl.Apu{Count: 255, Period: 255, Bit: 1}, 1, length)
		beats, loud := 0, 0
		for range 1200 {
			next, sample, told := impl.ApuTick(a)
			beats += one(next.Length < a.Length)
			if told && sample != next.Bit*8*one(next.Length > 0) {
				t.Fatalf("ApuTick(%+v) tells %d", a, sample)
			}
			loud += one(sample > 0)
			a = next
		}
		if beats != length || a.Length != 0 || (loud > 0) != (length > 1) {
			t.Errorf("length %d: %d beats, %d loud samples, %+v", length, beats, loud, a)
		}
	}
}

func TestManySamplesAreTold(t *testing.T) {
	for _, a := range []impl.Apu{{}, apuAt(0)} {
		many := 0
		for range 20000 {
			next, _, told := impl.ApuTick(a)
			many += one(told)
			a = next
		}
		if many != 20000/16 || a.T != 20000 {
			t.Errorf("%d samples at %d", many, a.T)
		}
	}
}

// wantApuWrite takes the byte by wrap-round, and each register by itself.
func wantApuWrite(a impl.Apu, reg int, v int) impl.Apu {
	asByte := leftBy(v, 256)
	switch reg {
	case 0:
		a.Period = asByte
	case 1:
		a.Length = leftBy(v, 32)
	case 2:
		a.Asks = asByte%2 == 1
		if !a.Asks {
			a.Irq = false
		}
	case 3:
		a.Irq = false
	}
	return a
}

func checkApuWrite(t *testing.T, a impl.Apu, reg int, v int, want impl.Apu) {
	t.Helper()
	if got := impl.ApuWrite(a, reg, v); got != want {
		t.Fatalf("ApuWrite(%+v, %d, %d) = %+v; want %+v", a, reg, v, got, want)
	}
}

func TestApuWriteByHand(t *testing.T) {
	full := apuAt(5)
	for _, e := range []struct {
		v, period, length int
		odd               bool
	}{
		{-1, 255, 31, true}, {0, 0, 0, false}, {1, 1, 1, true}, {2, 2, 2, false}, {3, 3, 3, true},
		{31, 31, 31, true}, {32, 32, 0, false}, {33, 33, 1, true},
		{254, 254, 30, false}, {255, 255, 31, true}, {256, 0, 0, false}, {257, 1, 1, true},
		{-2, 254, 30, false}, {-32, 224, 0, false}, {-255, 1, 1, true}, {-256, 0, 0, false},
		{math.MinInt, 0, 0, false}, {math.MinInt + 1, 1, 1, true}, {math.MaxInt, 255, 31, true}, {math.MaxInt - 1, 254, 30, false},
	} {
		checkApuWrite(t, full, 0, e.v, apuWith(full, func(a *impl.Apu) { a.Period = e.period }))
		checkApuWrite(t, full, 1, e.v, apuWith(full, func(a *impl.Apu) { a.Length = e.length }))
		checkApuWrite(t, full, 2, e.v, apuWith(full, func(a *impl.Apu) { a.Asks, a.Irq = e.odd, e.odd }))
		checkApuWrite(t, full, 3, e.v, apuWith(full, func(a *impl.Apu) { a.Irq = false }))
		checkApuWrite(t, impl.Apu{}, 0, e.v, impl.Apu{Period: e.period})
		checkApuWrite(t, impl.Apu{}, 1, e.v, impl.Apu{Length: e.length})
		checkApuWrite(t, impl.Apu{}, 2, e.v, impl.Apu{Asks: e.odd})
		checkApuWrite(t, impl.Apu{}, 3, e.v, impl.Apu{})
		checkApuWrite(t, impl.Apu{Irq: true}, 2, e.v, impl.Apu{Asks: e.odd, Irq: e.odd})
		checkApuWrite(t, impl.Apu{Asks: true}, 2, e.v, impl.Apu{Asks: e.odd})
	}
}

func TestApuWriteOfEachKind(t *testing.T) {
	for _, at := range []int{0, 15, 32, 20000} {
		eachApu(at, func(a impl.Apu) {
			for _, reg := range apuRegs {
				for _, v := range apuBytes {
					checkApuWrite(t, a, reg, v, wantApuWrite(a, reg, v))
				}
			}
		})
	}
}

func TestApuWriteOfEachByte(t *testing.T) {
	for reg := range 4 {
		for v := -300; v < 600; v++ {
			for flags := range 4 {
				a := apuWith(apuAt(0), func(a *impl.Apu) { a.Asks, a.Irq = flags%2 == 1, flags/2 == 1 })
				checkApuWrite(t, a, reg, v, wantApuWrite(a, reg, v))
				if !impl.ApuOk(impl.ApuWrite(a, reg, v)) {
					t.Fatalf("ApuWrite(%+v, %d, %d) is not ApuOk", a, reg, v)
				}
			}
		}
	}
}

func TestApuWriteOfOtherNumbersTurnsNothing(t *testing.T) {
	others := []int{4, 5, 6, 7, 8, 255, 256, 259, -1, -2, -4, -256, 1 << 32, 1<<32 + 1, math.MinInt, math.MinInt + 3, math.MaxInt, math.MaxInt - 3}
	for _, reg := range others {
		for _, v := range apuBytes {
			for _, a := range []impl.Apu{{}, apuAt(0), apuAt(20000)} {
				checkApuWrite(t, a, reg, v, a)
			}
		}
	}
}

// TestApuWriteAndReadOfWhatIsNotRight: the chapter asks neither whether it is ApuOk.
func TestApuWriteAndReadOfWhatIsNotRight(t *testing.T) {
	for _, a := range wrongApus() {
		for _, reg := range apuRegs {
			for _, v := range []int{-1, 0, 1, 33, 256, math.MinInt, math.MaxInt} {
				checkApuWrite(t, a, reg, v, wantApuWrite(a, reg, v))
			}
			want, wantV := wantApuRead(a, reg)
			checkApuRead(t, a, reg, want, wantV)
		}
	}
}

func wantApuRead(a impl.Apu, reg int) (impl.Apu, int) {
	if reg != 2 {
		return a, 0
	}
	told := 128*one(a.Irq) + one(a.Length > 0)
	a.Irq = false
	return a, told
}

func checkApuRead(t *testing.T, a impl.Apu, reg int, want impl.Apu, wantV int) {
	t.Helper()
	if got, v := impl.ApuRead(a, reg); got != want || v != wantV {
		t.Fatalf("ApuRead(%+v, %d) = %+v, %d; want %+v, %d", a, reg, got, v, want, wantV)
	}
}

func TestApuReadByHand(t *testing.T) {
	checkApuRead(t, impl.Apu{}, 2, impl.Apu{}, 0)
	checkApuRead(t, impl.Apu{Length: 1}, 2, impl.Apu{Length: 1}, 1)
	checkApuRead(t, impl.Apu{Length: 31}, 2, impl.Apu{Length: 31}, 1)
	checkApuRead(t, impl.Apu{Irq: true}, 2, impl.Apu{}, 128)
	checkApuRead(t, impl.Apu{Irq: true, Asks: true}, 2, impl.Apu{Asks: true}, 128)
	checkApuRead(t, impl.Apu{Asks: true}, 2, impl.Apu{Asks: true}, 0)
	checkApuRead(t, apuAt(7), 2, apuWith(apuAt(7), func(a *impl.Apu) { a.Irq = false }), 129)
	checkApuRead(t, apuAt(20000), 2, apuWith(apuAt(20000), func(a *impl.Apu) { a.Irq = false }), 129)
	for _, reg := range []int{-1, 0, 1, 3, 4, 130, 258, -254, 1<<32 + 2, math.MinInt, math.MinInt + 2, math.MaxInt} {
		checkApuRead(t, apuAt(7), reg, apuAt(7), 0)
	}
}

func TestApuReadOfEachKind(t *testing.T) {
	for _, at := range []int{0, 15, 32, 19999, 20000} {
		eachApu(at, func(a impl.Apu) {
			for _, reg := range apuRegs {
				want, v := wantApuRead(a, reg)
				checkApuRead(t, a, reg, want, v)
			}
		})
	}
}

func checkBeatIn(t *testing.T, from, to int, want bool) {
	t.Helper()
	if got := impl.BeatIn(from, to); got != want {
		t.Fatalf("BeatIn(%d, %d) = %v", from, to, got)
	}
}

// wantBeatIn asks all beats of the console's time; those are the only ones that may be meant.
func wantBeatIn(beats []int, from, to int) bool {
	return slices.ContainsFunc(beats, func(at int) bool { return from <= at && at < to })
}

func TestBeatInByHand(t *testing.T) {
	for _, e := range []struct {
		from, to int
		want     bool
	}{
		{0, 0, false}, {0, 1, true}, {0, 31, true}, {0, 32, true}, {0, 65, true}, {0, -1, false},
		{1, 31, false}, {1, 32, false}, {1, 33, true}, {1, 64, true}, {1, 1, false}, {1, 0, false},
		{31, 32, false}, {31, 33, true}, {32, 32, false}, {32, 33, true}, {32, 31, false}, {32, 63, true},
		{33, 63, false}, {33, 64, false}, {33, 65, true}, {63, 64, false}, {63, 65, true}, {64, 65, true}, {65, 64, false}, {65, 96, false}, {65, 97, true},
		{-1, -1, false}, {-1, 0, false}, {-1, 1, true}, {-1, 65, true}, {-32, -1, false}, {-33, -31, false}, {-64, 0, false},
		{19968, 19969, true}, {19968, 20000, true}, {19969, 19999, false}, {19969, 20000, false}, {19969, 20001, false},
		{19999, 20000, false}, {19999, 20001, false}, {20000, 20000, false}, {20000, 20001, false}, {20001, 20000, false},
		{20000, 20033, false}, {20001, 20033, false}, {19999, math.MaxInt, false}, {20000, math.MaxInt, false}, {19968, math.MaxInt, true},
		{math.MinInt, -1, false}, {math.MinInt, 0, false}, {math.MinInt, 1, true}, {math.MinInt, math.MaxInt, true}, {math.MinInt, math.MinInt, false},
		{math.MaxInt, math.MaxInt, false}, {math.MaxInt, math.MinInt, false}, {0, math.MaxInt, true}, {0, math.MinInt, false}, {1, math.MaxInt, true},
	} {
		checkBeatIn(t, e.from, e.to, e.want)
	}
}

func TestBeatInOfEmptyStretches(t *testing.T) {
	for _, at := range beatEdges {
		checkBeatIn(t, at, at, false)
		for _, to := range beatEdges {
			if to < at {
				checkBeatIn(t, at, to, false)
			}
		}
	}
}

func TestBeatInOfAllPairs(t *testing.T) {
	beats := beatsBy(20000)
	for _, from := range beatEdges {
		for _, to := range beatEdges {
			checkBeatIn(t, from, to, wantBeatIn(beats, from, to))
		}
	}
	for _, begin := range []int{-40, 19900} {
		for from := begin; from < begin+170; from++ {
			for to := begin; to < begin+170; to++ {
				checkBeatIn(t, from, to, wantBeatIn(beats, from, to))
			}
		}
	}
}

// TestBeatInIsSaidOfParts: a stretch has a beat just if one of its two parts has.
func TestBeatInIsSaidOfParts(t *testing.T) {
	for _, from := range beatEdges {
		for _, mid := range beatEdges {
			for _, to := range beatEdges {
				if from <= mid && mid <= to {
					checkBeatIn(t, from, to, impl.BeatIn(from, mid) || impl.BeatIn(mid, to))
				}
			}
		}
	}
}

func TestBeatInOfEachCycle(t *testing.T) {
	beats := beatsBy(20000)
	for at := range 20100 {
		checkBeatIn(t, at, at+1, slices.Contains(beats, at))
	}
}

// tickWatched is a tick in which it is seen whether the unit begins to ask, and why.
func tickWatched(t *testing.T, a impl.Apu) (impl.Apu, bool) {
	t.Helper()
	next, _, _ := impl.ApuTick(a)
	beat := a.T%32 == 0 && a.T < 20000
	begins := next.Irq && !a.Irq
	if begins && !beat || begins != (beat && !a.Irq && a.Asks && a.Length == 1) || begins && next.Length != 0 {
		t.Fatalf("ApuTick(%+v) = %+v", a, next)
	}
	if begins && !impl.BeatIn(a.T, next.T) || impl.BeatIn(a.T, a.T+1) != beat {
		t.Fatalf("BeatIn(%d, %d) = %v", a.T, next.T, impl.BeatIn(a.T, next.T))
	}
	if a.Irq && !next.Irq {
		t.Fatalf("a tick took Irq back: %+v", a)
	}
	return next, begins
}

// readWatched reads each register: one of them ends the asking, and that is all they turn.
func readWatched(t *testing.T, a impl.Apu, reg int) impl.Apu {
	t.Helper()
	next, v := impl.ApuRead(a, reg)
	rest := a
	rest.Irq = next.Irq
	if next != rest || reg != 2 && (next != a || v != 0) || reg == 2 && (next.Irq || v != 128*one(a.Irq)+one(a.Length > 0)) {
		t.Fatalf("ApuRead(%+v, %d) = %+v, %d", a, reg, next, v)
	}
	if again, told := impl.ApuRead(next, 2); reg == 2 && (again != next || told >= 128) {
		t.Fatalf("read again: %+v, %d", again, told)
	}
	return next
}

// writeWatched: nothing that is written makes the unit begin to ask.
func writeWatched(t *testing.T, a impl.Apu, reg int, v int) impl.Apu {
	t.Helper()
	next := impl.ApuWrite(a, reg, v)
	if next.Irq && !a.Irq || next.T != a.T || next.Count != a.Count || next.Bit != a.Bit {
		t.Fatalf("ApuWrite(%+v, %d, %d) = %+v", a, reg, v, next)
	}
	return next
}

// asksOverARow goes over a row of deeds to the end of time, most of them ticks, and counts how often the unit began to ask.
func asksOverARow(t *testing.T, a impl.Apu, seed int) int {
	row, asks := mixedBytes(seed, 4096), 0
	for at := 0; a.T < 20000; at++ {
		if at > 100000 {
			t.Fatalf("no end of time: %+v", a)
		}
		deed, v := row[at%4095], row[(at+1)%4096]
		switch {
		case deed < 2:
			a = writeWatched(t, a, deed, v)
		case deed < 4:
			a = writeWatched(t, a, 1, v%3)
		case deed < 6:
			a = writeWatched(t, a, 2, v|1)
		case deed < 9:
			a = writeWatched(t, a, deed-4, v)
		case deed < 14:
			a = readWatched(t, a, v%5)
		default:
			var begins bool
			a, begins = tickWatched(t, a)
			asks += one(begins)
		}
	}
	return asks
}

func TestP10TheSoundUnitBeginsToAskInABeatOnly(t *testing.T) {
	asks := 0
	for seed := range 25 {
		asks += asksOverARow(t, impl.Apu{}, seed)
		asks += asksOverARow(t, apuAt(seed*700), seed+100)
	}
	if asks < 100 {
		t.Errorf("the unit began to ask %d times", asks)
	}
}

func TestP10AtEachTime(t *testing.T) {
	for at := range 20001 {
		for length := range 3 {
			for flags := range 4 {
				tickWatched(t, impl.Apu{T: at, Period: 7, Length: length, Asks: flags%2 == 1, Irq: flags/2 == 1})
			}
		}
	}
}

func TestP10ReadItAsksNoMore(t *testing.T) {
	for length := 1; length < 32; length++ {
		a := impl.ApuWrite(impl.ApuWrite(impl.Apu{T: 5}, 1, length), 2, 1)
		begins := false
		for ticks := 0; !begins && ticks < 2000; ticks++ {
			a, begins = tickWatched(t, a)
		}
		if !begins || a.T != 32*length+1 {
			t.Fatalf("length %d: %+v", length, a)
		}
		a = readWatched(t, a, 2)
		for range 200 {
			if a, begins = tickWatched(t, a); begins || a.Irq {
				t.Fatalf("length %d: asks again: %+v", length, a)
			}
		}
	}
}

// TestApuAnswersHangOnNothingElse asks the same again, with other calls between.
func TestApuAnswersHangOnNothingElse(t *testing.T) {
	a := apuAt(31)
	first, sample, told := impl.ApuTick(a)
	for _, other := range append(wrongApus(), impl.Apu{}, apuAt(0)) {
		impl.ApuTick(other)
		impl.ApuRead(other, 2)
		for reg := range 4 {
			impl.ApuWrite(other, reg, 1)
		}
		checkApuTick(t, a, first, sample, told)
		checkApuWrite(t, a, 2, 0, wantApuWrite(a, 2, 0))
	}
}
