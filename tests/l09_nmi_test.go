package tests

import (
	"math"
	"slices"
	"testing"

	"loop.example/g00231/impl"
)

// blankEdges are times at, ahead of and behind what is blank, and those that the console never has.
var blankEdges = []int{
	math.MinInt, math.MinInt + 1, math.MinInt + 48, -20000, -65, -64, -17, -16, -15, -2, -1,
	0, 1, 46, 47, 48, 49, 50, 62, 63, 64, 65, 110, 111, 112, 113, 114, 127, 128, 176,
	19951, 19952, 19953, 19967, 19968, 19998, 19999, 20000, 20001, 20002, 20015, 20016, 20017, 20064, 20080, 20081,
	1 << 32, 1<<32 + 48, math.MaxInt - 15, math.MaxInt - 1, math.MaxInt,
}

// blanksBy are all blank cycles ahead of an end, by plain counting from the first cycle on.
func blanksBy(end int) []int {
	var list []int
	phase := 0
	for at := range end {
		if phase == 48 {
			list = append(list, at)
		}
		phase = (phase + 1) % 64
	}
	return list
}

// wantBlankIn asks all blank cycles of the console's time; those are the only ones that may be meant.
func wantBlankIn(blanks []int, from, to int) bool {
	return slices.ContainsFunc(blanks, func(at int) bool { return from <= at && at < to })
}

func checkBlankIn(t *testing.T, from, to int, want bool) {
	t.Helper()
	if got := impl.BlankIn(from, to); got != want {
		t.Fatalf("BlankIn(%d, %d) = %v", from, to, got)
	}
}

func TestBlankInByHand(t *testing.T) {
	for _, e := range []struct {
		from, to int
		want     bool
	}{
		{0, 47, false}, {0, 48, false}, {0, 49, true}, {0, 64, true},
		{47, 48, false}, {47, 49, true}, {48, 49, true}, {48, 64, true}, {49, 64, false},
		{49, 111, false}, {49, 112, false}, {49, 113, true}, {63, 112, false}, {63, 113, true},
		{64, 112, false}, {64, 113, true}, {112, 113, true}, {113, 176, false}, {113, 177, true},
		{48, 112, true}, {48, 113, true}, {47, 177, true},
		{-1, 0, false}, {-1, 48, false}, {-1, 49, true}, {-9, 60, true},
		{-17, -15, false}, {-16, -15, false}, {-64, 0, false}, {-1000, -1, false},
		{19952, 19953, true}, {19951, 19952, false}, {19953, 19999, false}, {19953, 20000, false}, {19953, 20001, false},
		{19952, 20000, true}, {19952, math.MaxInt, true}, {19953, math.MaxInt, false},
		{20000, 20064, false}, {20000, 20017, false}, {20001, 20017, false}, {20016, 20017, false}, {20000, math.MaxInt, false},
		{math.MinInt, 0, false}, {math.MinInt, 48, false}, {math.MinInt, 49, true}, {math.MinInt, math.MaxInt, true},
		{math.MaxInt, math.MinInt, false}, {0, math.MaxInt, true}, {0, math.MinInt, false}, {math.MinInt, -1, false},
	} {
		checkBlankIn(t, e.from, e.to, e.want)
	}
}

func TestBlankInOfEmptyStretches(t *testing.T) {
	for at := -70; at < 300; at++ {
		checkBlankIn(t, at, at, false)
		for _, less := range []int{1, 2, 48, 63, 64, 65, 128, 20000} {
			checkBlankIn(t, at, at-less, false)
		}
	}
	for _, at := range blankEdges {
		checkBlankIn(t, at, at, false)
		for _, to := range blankEdges {
			if to < at {
				checkBlankIn(t, at, to, false)
			}
		}
	}
}

func TestBlankInOfAllPairsOfEdges(t *testing.T) {
	blanks := blanksBy(20000)
	for _, from := range blankEdges {
		for _, to := range blankEdges {
			checkBlankIn(t, from, to, wantBlankIn(blanks, from, to))
		}
	}
}

func TestBlankInOfAllPairsOfTimes(t *testing.T) {
	blanks := blanksBy(20000)
	for from := -70; from < 200; from++ {
		for to := -70; to < 200; to++ {
			checkBlankIn(t, from, to, wantBlankIn(blanks, from, to))
		}
	}
	for from := 19900; from < 20100; from++ {
		for to := 19900; to < 20100; to++ {
			checkBlankIn(t, from, to, wantBlankIn(blanks, from, to))
		}
	}
}

// TestBlankInIsSaidOfParts: a stretch has a blank cycle just if one of its two parts has.
func TestBlankInIsSaidOfParts(t *testing.T) {
	for _, from := range blankEdges {
		for _, mid := range blankEdges {
			for _, to := range blankEdges {
				if from <= mid && mid <= to {
					checkBlankIn(t, from, to, impl.BlankIn(from, mid) || impl.BlankIn(mid, to))
				}
			}
		}
	}
}

func TestFrameOf(t *testing.T) {
	for _, e := range []struct{ at, want int }{
		{math.MinInt, 0}, {math.MinInt + 1, 0}, {-128, 0}, {-65, 0}, {-64, 0}, {-63, 0}, {-1, 0},
		{0, 0}, {1, 0}, {47, 0}, {48, 0}, {49, 0}, {62, 0}, {63, 0},
		{64, 1}, {65, 1}, {127, 1}, {128, 2}, {191, 2}, {192, 3},
		{19967, 311}, {19968, 312}, {19999, 312}, {20000, 312}, {20001, 312}, {20031, 312}, {20032, 313},
		{math.MaxInt - 63, 1<<57 - 1}, {math.MaxInt - 64, 1<<57 - 2}, {math.MaxInt, 1<<57 - 1},
	} {
		if got := impl.FrameOf(e.at); got != e.want {
			t.Errorf("FrameOf(%d) = %d, want %d", e.at, got, e.want)
		}
	}
}

func TestFrameOfEachTime(t *testing.T) {
	over, phase := 0, 0
	for at := range 20100 {
		if got := impl.FrameOf(at); got != over {
			t.Fatalf("FrameOf(%d) = %d, want %d", at, got, over)
		}
		phase++
		if phase == 64 {
			over, phase = over+1, 0
		}
	}
}

func TestNextBlankByHand(t *testing.T) {
	for _, e := range []struct{ at, want int }{
		{math.MinInt, 48}, {math.MinInt + 49, 48}, {-65, 48}, {-64, 48}, {-16, 48}, {-15, 48}, {-1, 48},
		{0, 48}, {1, 48}, {47, 48}, {48, 48}, {49, 112}, {63, 112}, {64, 112},
		{111, 112}, {112, 112}, {113, 176}, {127, 176}, {128, 176},
		{19951, 19952}, {19952, 19952}, {19953, 20016}, {19968, 20016},
		{19999, 20016}, {20000, 20016}, {20001, 20016}, {20016, 20016}, {20017, 20016}, {20080, 20016},
		{1 << 32, 20016}, {math.MaxInt - 1, 20016}, {math.MaxInt, 20016},
	} {
		if got := impl.NextBlank(e.at); got != e.want {
			t.Errorf("NextBlank(%d) = %d, want %d", e.at, got, e.want)
		}
	}
}

func TestNextBlankOfEachTime(t *testing.T) {
	blanks := blanksBy(20100)
	for at := -100; at < 20200; at++ {
		want := blanks[slices.IndexFunc(blanks, func(blank int) bool { return blank >= min(at, 20000) })]
		if got := impl.NextBlank(at); got != want {
			t.Fatalf("NextBlank(%d) = %d, want %d", at, got, want)
		}
	}
}

func TestInEachPeriodIsOne(t *testing.T) {
	for n := range wholePeriods + 1 {
		own := 0
		for at := 64 * n; at < 64*(n+1); at++ {
			own += one(impl.NextBlank(at) == at)
		}
		if own != 1 {
			t.Errorf("%d cycles of Period %d are their own NextBlank", own, n)
		}
	}
	for n := range wholePeriods {
		in := 0
		for at := 64 * n; at < 64*(n+1); at++ {
			in += one(impl.BlankIn(at, at+1))
		}
		if in != 1 || !impl.BlankIn(64*n, 64*(n+1)) {
			t.Errorf("%d blank cycles in Period %d", in, n)
		}
	}
}

// askedWithin is the unit behind so many ticks, and whether one of them told so.
func askedWithin(p impl.Ppu, ticks int) (impl.Ppu, bool) {
	asked := false
	for range ticks {
		var asks bool
		p, _, asks = impl.PpuTick(p)
		asked = asked || asks
	}
	return p, asked
}

func checkKnown(t *testing.T, start impl.Ppu, ticks int) {
	t.Helper()
	p, asked := askedWithin(start, ticks)
	if known := start.Ctrl > 127 && impl.BlankIn(start.T, p.T); asked != known {
		t.Errorf("from %d to %d with Ctrl %d: told %v, known %v", start.T, p.T, start.Ctrl, asked, known)
	}
}

func TestP9TheProcessorKnowsByTheTimeWhenThePictureUnitTellsSo(t *testing.T) {
	for _, from := range []int{0, 64, 128, 64 * 100, 64 * (wholePeriods - 1), 64 * wholePeriods} {
		for phase := range 64 {
			if from+phase > 20000 {
				continue
			}
			for _, ctrl := range []int{0, 127, 128, 255} {
				start := turned(ppuAt(from+phase), func(p *impl.Ppu) { p.Ctrl = ctrl })
				for _, ticks := range []int{0, 1, 2, 7, 63, 64, 65} {
					checkKnown(t, start, ticks)
				}
			}
		}
	}
}

// TestP9FromTheFirstCycleToTheLast goes as steps do: by so many cycles again and again.
func TestP9FromTheFirstCycleToTheLast(t *testing.T) {
	for _, ticks := range []int{1, 2, 3, 7, 64} {
		p, pictures := turned(impl.PpuNew(), func(p *impl.Ppu) { p.Ctrl = 128 }), 0
		for p.T < 20000 {
			q, asked := askedWithin(p, ticks)
			if asked != impl.BlankIn(p.T, q.T) {
				t.Fatalf("from %d to %d: told %v", p.T, q.T, asked)
			}
			pictures += one(asked)
			p = q
		}
		if pictures != len(blanksBy(20000)) {
			t.Errorf("by %d cycles: %d pictures", ticks, pictures)
		}
	}
}

func TestP9TheNextBlankIsWhereThePictureUnitTellsSo(t *testing.T) {
	for _, from := range []int{0, 64, 64 * 100, 64 * (wholePeriods - 2)} {
		for phase := range 64 {
			start := turned(ppuAt(from+phase), func(p *impl.Ppu) { p.Ctrl = 255 })
			next := impl.NextBlank(start.T)
			ahead, early := askedWithin(start, next-start.T)
			if _, asked := askedWithin(ahead, 1); early || !asked {
				t.Errorf("from %d on: told ahead of %d: %v, at it: %v", start.T, next, early, asked)
			}
		}
	}
}
