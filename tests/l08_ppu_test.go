package tests

import (
	"fmt"
	"math"
	"slices"
	"testing"

	"loop.example/g00231/impl"
)

var (
	bothBlanks = []bool{false, true}
	someRegs   = []int{-1, 0, 1, 2, 3, 4, 5, 6, 7, 8, 256, 260, -252, math.MinInt, math.MinInt + 4, math.MaxInt}
	someBytes  = []int{-1, 0, 1, 15, 16, 17, 63, 64, 70, 127, 128, 255, 256, 300, -64, math.MinInt, math.MaxInt}
	// somePhases are places in a Period: its ends, and those of what is seen and of what is blank.
	somePhases = []int{0, 1, 2, 46, 47, 48, 49, 50, 62, 63}
	// wholePeriods is how many Periods end by MaxTime: it lies within the one behind these.
	wholePeriods = 20000 / 64
)

// dotsBy is how many dots there are at a time, by plain counting from the first cycle on.
func dotsBy(t int) int {
	many, phase := 0, 0
	for range t {
		switch {
		case phase < 48:
			many++
		case phase == 48:
			many = 0
		}
		phase = (phase + 1) % 64
	}
	return many
}

// tableOf is a table of 16 numbers from 0 to 63, no two of them alike.
func tableOf() []int {
	list := make([]int, 16)
	for i := range list {
		list[i] = (i*11 + 5) % 64
	}
	return list
}

// dotsOf is a row of so many numbers from 0 to 63, no two of them alike up to 64.
func dotsOf(many int) []int {
	list := make([]int, many)
	for i := range list {
		list[i] = (i*5 + 63) % 64
	}
	return list
}

// ppuAt is a right unit at a time, with no field 0 but its time.
func ppuAt(t int) impl.Ppu {
	return impl.Ppu{T: t, Ctrl: 200, Scroll: 21, Addr: 9, Pal: 37, Blank: true, Table: tableOf(), Dots: dotsOf(dotsBy(t))}
}

func copyOfPpu(p impl.Ppu) impl.Ppu {
	p.Table, p.Dots = slices.Clone(p.Table), slices.Clone(p.Dots)
	return p
}

func samePpu(a, b impl.Ppu) bool {
	return a.T == b.T && a.Ctrl == b.Ctrl && a.Scroll == b.Scroll && a.Addr == b.Addr && a.Pal == b.Pal &&
		a.Blank == b.Blank && slices.Equal(a.Table, b.Table) && slices.Equal(a.Dots, b.Dots)
}

// turned is a right unit with one thing changed.
func turned(p impl.Ppu, change func(*impl.Ppu)) impl.Ppu {
	p = copyOfPpu(p)
	change(&p)
	return p
}

// wrongPpus are units that are not PpuOk, each by one fault; its time is one at which there are dots.
func wrongPpus() map[string]impl.Ppu {
	wrong := map[string]impl.Ppu{"zero": {}}
	add := func(name string, change func(*impl.Ppu)) { wrong[name] = turned(ppuAt(64+20), change) }
	for _, v := range []int{-1, math.MinInt, math.MinInt + 20, math.MaxInt} {
		add(fmt.Sprint("T ", v), func(p *impl.Ppu) { p.T = v })
		add(fmt.Sprint("T and Dots ", v), func(p *impl.Ppu) { p.T, p.Dots = v, nil })
		add(fmt.Sprint("Ctrl ", v), func(p *impl.Ppu) { p.Ctrl = v })
		add(fmt.Sprint("Scroll ", v), func(p *impl.Ppu) { p.Scroll = v })
		add(fmt.Sprint("Addr ", v), func(p *impl.Ppu) { p.Addr = v })
		add(fmt.Sprint("Pal ", v), func(p *impl.Ppu) { p.Pal = v })
		for _, at := range []int{0, 7, 15} {
			add(fmt.Sprint("Table ", v, at), func(p *impl.Ppu) { p.Table[at] = v })
		}
		for _, at := range []int{0, 9, 19} {
			add(fmt.Sprint("Dots ", v, at), func(p *impl.Ppu) { p.Dots[at] = v })
		}
	}
	add("Ctrl 256", func(p *impl.Ppu) { p.Ctrl = 256 })
	add("Scroll 256", func(p *impl.Ppu) { p.Scroll = 256 })
	add("Addr 16", func(p *impl.Ppu) { p.Addr = 16 })
	add("Pal 64", func(p *impl.Ppu) { p.Pal = 64 })
	add("64 first in Table", func(p *impl.Ppu) { p.Table[0] = 64 })
	add("64 last in Table", func(p *impl.Ppu) { p.Table[15] = 64 })
	add("64 first in Dots", func(p *impl.Ppu) { p.Dots[0] = 64 })
	add("64 last in Dots", func(p *impl.Ppu) { p.Dots[19] = 64 })
	add("no Table", func(p *impl.Ppu) { p.Table = nil })
	add("Table of one", func(p *impl.Ppu) { p.Table = []int{3} })
	add("Table one too short", func(p *impl.Ppu) { p.Table = p.Table[:15] })
	add("Table one too long", func(p *impl.Ppu) { p.Table = append(p.Table, 1) })
	add("Table of 64", func(p *impl.Ppu) { p.Table = make([]int, 64) })
	add("no Dots", func(p *impl.Ppu) { p.Dots = nil })
	add("Dots one too few", func(p *impl.Ppu) { p.Dots = p.Dots[:19] })
	add("Dots one too many", func(p *impl.Ppu) { p.Dots = append(p.Dots, 1) })
	add("Dots of 64", func(p *impl.Ppu) { p.Dots = make([]int, 64) })
	add("T one too early", func(p *impl.Ppu) { p.T-- })
	add("T one too late", func(p *impl.Ppu) { p.T++ })
	return wrong
}

func TestPpuConstants(t *testing.T) {
	if impl.Line != 8 || impl.Seen != 48 || impl.Period != 64 || impl.MaxTime != 20000 {
		t.Error(impl.Line, impl.Seen, impl.Period, impl.MaxTime)
	}
}

func TestPpuNew(t *testing.T) {
	p, q := impl.PpuNew(), impl.PpuNew()
	if !samePpu(p, impl.Ppu{Table: make([]int, 16)}) || !impl.PpuOk(p) {
		t.Errorf("PpuNew() = %+v", p)
	}
	for i := range p.Table {
		p.Table[i] = 1 + i
	}
	p.Dots = append(p.Dots, 1)
	if !samePpu(q, impl.Ppu{Table: make([]int, 16)}) || !samePpu(impl.PpuNew(), q) {
		t.Error("one PpuNew changed with another")
	}
}

func checkPpuOk(t *testing.T, p impl.Ppu, want bool) {
	t.Helper()
	if got := impl.PpuOk(p); got != want {
		t.Errorf("PpuOk(%+v) = %v", p, got)
	}
}

func TestPpuOkOfEachTime(t *testing.T) {
	for at := range 300 {
		checkPpuOk(t, ppuAt(at), true)
	}
	for _, at := range []int{20000 - 64, 19967, 19968, 19999, 20000} {
		checkPpuOk(t, ppuAt(at), true)
	}
	for _, at := range []int{-1, -16, -64, 20001, 20032, math.MinInt, math.MaxInt} {
		for many := range 65 {
			checkPpuOk(t, turned(ppuAt(0), func(p *impl.Ppu) { p.T, p.Dots = at, dotsOf(many) }), false)
		}
	}
}

func TestPpuOkOfOneNumber(t *testing.T) {
	fields := []struct {
		name string
		most int
		of   func(*impl.Ppu) *int
	}{
		{"Ctrl", 255, func(p *impl.Ppu) *int { return &p.Ctrl }},
		{"Scroll", 255, func(p *impl.Ppu) *int { return &p.Scroll }},
		{"Addr", 15, func(p *impl.Ppu) *int { return &p.Addr }},
		{"Pal", 63, func(p *impl.Ppu) *int { return &p.Pal }},
		{"the first of Table", 63, func(p *impl.Ppu) *int { return &p.Table[0] }},
		{"one of Table", 63, func(p *impl.Ppu) *int { return &p.Table[6] }},
		{"the last of Table", 63, func(p *impl.Ppu) *int { return &p.Table[15] }},
		{"the first of Dots", 63, func(p *impl.Ppu) *int { return &p.Dots[0] }},
		{"one of Dots", 63, func(p *impl.Ppu) *int { return &p.Dots[30] }},
		{"the last of Dots", 63, func(p *impl.Ppu) *int { return &p.Dots[47] }},
	}
	numbers := []int{-256, -64, -16, -1, 0, 1, 14, 15, 16, 17, 62, 63, 64, 65, 128, 254, 255, 256, 257, 1 << 32, math.MinInt, math.MaxInt}
	for _, f := range fields {
		for _, v := range numbers {
			p := turned(ppuAt(128+48), func(p *impl.Ppu) { *f.of(p) = v })
			if got, want := impl.PpuOk(p), v >= 0 && v <= f.most; got != want {
				t.Errorf("PpuOk with %s of %d = %v", f.name, v, got)
			}
		}
	}
}

func TestPpuOkOfEachCount(t *testing.T) {
	for _, from := range []int{0, 64, 64 * (wholePeriods - 1)} {
		for phase := range 64 {
			for many := range 66 {
				want := many == 0
				if phase <= 48 {
					want = many == phase
				}
				checkPpuOk(t, turned(ppuAt(from+phase), func(p *impl.Ppu) { p.Dots = dotsOf(many) }), want)
			}
		}
	}
	for many := range 66 {
		checkPpuOk(t, turned(ppuAt(0), func(p *impl.Ppu) { p.Table = dotsOf(many) }), many == 16)
	}
}

func TestPpuOkWithAnyFlag(t *testing.T) {
	for at := range 64 {
		for _, blank := range bothBlanks {
			checkPpuOk(t, turned(ppuAt(at), func(p *impl.Ppu) { p.Blank = blank }), true)
		}
	}
}

func TestPpuOkOfWrongOnes(t *testing.T) {
	for name, p := range wrongPpus() {
		if impl.PpuOk(p) {
			t.Errorf("%s: PpuOk", name)
		}
	}
}

// bothBits is the bits of just one of two numbers from 0 to 63, one by one.
func bothBits(a, b int) int {
	sum := 0
	for bit := 1; bit < 64; bit *= 2 {
		if a/bit%2 != b/bit%2 {
			sum += bit
		}
	}
	return sum
}

// wantDots are the Seen dots of a right unit, line by line.
func wantDots(p impl.Ppu) []int {
	var list []int
	for line := range 6 {
		for place := range 8 {
			list = append(list, bothBits(p.Table[(place+p.Scroll+line)%16], p.Pal))
		}
	}
	return list
}

func TestDotByHand(t *testing.T) {
	p := impl.PpuNew()
	p.Table = []int{10, 11, 12, 13, 14, 15, 16, 17, 18, 19, 20, 21, 22, 23, 24, 25}
	scrolled := turned(p, func(p *impl.Ppu) { p.Scroll = 3 })
	coloured := turned(p, func(p *impl.Ppu) { p.Pal = 63 })
	for _, e := range []struct {
		p        impl.Ppu
		at, want int
	}{
		{p, -1, 0}, {p, 0, 10}, {p, 1, 11}, {p, 7, 17},
		{p, 8, 11}, {p, 9, 12}, {p, 15, 18},
		{p, 16, 12}, {p, 40, 15}, {p, 47, 22},
		{p, 48, 0}, {p, 49, 0}, {p, 63, 0}, {p, 64, 0}, {p, 128, 0}, {p, -8, 0}, {p, -64, 0},
		{p, math.MinInt, 0}, {p, math.MaxInt, 0},
		{scrolled, 0, 13}, {scrolled, 7, 20}, {scrolled, 8, 14}, {scrolled, 46, 24}, {scrolled, 47, 25},
		{turned(p, func(p *impl.Ppu) { p.Scroll = 4 }), 47, 10},
		{turned(p, func(p *impl.Ppu) { p.Scroll = 15 }), 0, 25},
		{turned(p, func(p *impl.Ppu) { p.Scroll = 15 }), 1, 10},
		{turned(p, func(p *impl.Ppu) { p.Scroll = 16 }), 0, 10},
		{turned(p, func(p *impl.Ppu) { p.Scroll = 255 }), 0, 25},
		{turned(p, func(p *impl.Ppu) { p.Scroll = 255 }), 8, 10},
		{coloured, 0, 53}, {coloured, 47, 41}, {coloured, 48, 0}, {coloured, -1, 0},
		{turned(p, func(p *impl.Ppu) { p.Pal = 1 }), 0, 11},
		{turned(p, func(p *impl.Ppu) { p.Pal = 1 }), 1, 10},
	} {
		if got := impl.Dot(e.p, e.at); got != e.want {
			t.Errorf("Dot(%+v, %d) = %d, want %d", e.p, e.at, got, e.want)
		}
	}
}

func TestDotAtEachLineAndPlace(t *testing.T) {
	for _, scroll := range []int{0, 1, 2, 7, 8, 14, 15, 16, 17, 100, 240, 254, 255} {
		for _, pal := range []int{0, 1, 2, 31, 32, 62, 63} {
			for _, now := range []int{0, 30, 48, 49, 63, 64, 20000} {
				p := turned(ppuAt(now), func(p *impl.Ppu) { p.Scroll, p.Pal = scroll, pal })
				for at, want := range wantDots(p) {
					if got := impl.Dot(p, at); got != want {
						t.Fatalf("Dot(%+v, %d) = %d, want %d", p, at, got, want)
					}
				}
				for _, at := range []int{-100, -48, -1, 48, 49, 100, 1 << 32, math.MinInt, math.MaxInt} {
					if got := impl.Dot(p, at); got != 0 {
						t.Fatalf("Dot(%+v, %d) = %d, want 0", p, at, got)
					}
				}
			}
		}
	}
}

func TestDotOfWhatIsNotRight(t *testing.T) {
	for name, p := range wrongPpus() {
		for _, at := range []int{-1, 0, 7, 8, 47, 48, math.MinInt, math.MaxInt} {
			if got := impl.Dot(p, at); got != 0 {
				t.Errorf("%s: Dot at %d = %d, want 0", name, at, got)
			}
		}
	}
}

// wantTick is what the chapter says of a cycle of a right unit.
func wantTick(p impl.Ppu) (impl.Ppu, []int, bool) {
	q := copyOfPpu(p)
	if q.T == 20000 {
		return q, nil, false
	}
	var told []int
	asks := false
	phase := q.T % 64
	if phase < 48 {
		q.Dots = append(q.Dots, wantDots(p)[phase])
	}
	if phase == 48 {
		told, q.Dots, q.Blank, asks = q.Dots, nil, true, q.Ctrl >= 128
	}
	if phase == 63 {
		q.Blank = false
	}
	q.T++
	return q, told, asks
}

func checkTick(t *testing.T, p impl.Ppu) {
	t.Helper()
	was := copyOfPpu(p)
	q, told, asks := impl.PpuTick(p)
	wantQ, wantTold, wantAsks := wantTick(p)
	if !samePpu(q, wantQ) || !slices.Equal(told, wantTold) || asks != wantAsks {
		t.Fatalf("PpuTick(%+v) = %+v, %v, %v, want %+v, %v, %v", p, q, told, asks, wantQ, wantTold, wantAsks)
	}
	if !impl.PpuOk(q) {
		t.Fatalf("PpuTick(%+v) = %+v, which is not PpuOk", p, q)
	}
	if !samePpu(p, was) {
		t.Fatalf("PpuTick wrote into %+v", was)
	}
}

func TestPpuTickByHand(t *testing.T) {
	first := turned(impl.PpuNew(), func(p *impl.Ppu) { p.Table[0], p.Table[12] = 5, 9 })
	p, told, asks := impl.PpuTick(first)
	if !samePpu(p, impl.Ppu{T: 1, Table: first.Table, Dots: []int{5}}) || len(told) != 0 || asks {
		t.Errorf("the first cycle: %+v, %v, %v", p, told, asks)
	}
	last := turned(first, func(p *impl.Ppu) { p.T, p.Dots = 47, dotsOf(47) })
	p, told, asks = impl.PpuTick(last)
	whole := append(dotsOf(47), 9)
	if !samePpu(p, impl.Ppu{T: 48, Table: first.Table, Dots: whole}) || len(told) != 0 || asks {
		t.Errorf("the last seen cycle: %+v, %v, %v", p, told, asks)
	}
	p, told, asks = impl.PpuTick(p)
	if !samePpu(p, impl.Ppu{T: 49, Blank: true, Table: first.Table}) || !slices.Equal(told, whole) || asks {
		t.Errorf("the cycle that tells: %+v, %v, %v", p, told, asks)
	}
	p, told, asks = impl.PpuTick(p)
	if !samePpu(p, impl.Ppu{T: 50, Blank: true, Table: first.Table}) || len(told) != 0 || asks {
		t.Errorf("the cycle behind it: %+v, %v, %v", p, told, asks)
	}
	p.T = 62
	p, told, asks = impl.PpuTick(p)
	if !samePpu(p, impl.Ppu{T: 63, Blank: true, Table: first.Table}) || len(told) != 0 || asks {
		t.Errorf("the last blank cycle: %+v, %v, %v", p, told, asks)
	}
	p, told, asks = impl.PpuTick(p)
	if !samePpu(p, impl.Ppu{T: 64, Table: first.Table}) || len(told) != 0 || asks {
		t.Errorf("the last cycle: %+v, %v, %v", p, told, asks)
	}
}

func TestPpuTickAsksByCtrl(t *testing.T) {
	for ctrl := range 256 {
		for _, blank := range bothBlanks {
			for _, phase := range somePhases {
				p := turned(ppuAt(64+phase), func(p *impl.Ppu) { p.Ctrl, p.Blank = ctrl, blank })
				_, told, asks := impl.PpuTick(p)
				if asks != (phase == 48 && ctrl > 127) {
					t.Errorf("Ctrl %d, phase %d: asks %v", ctrl, phase, asks)
				}
				if (len(told) == 48) != (phase == 48) || (len(told) == 0) == (phase == 48) {
					t.Errorf("Ctrl %d, phase %d: %d dots were told", ctrl, phase, len(told))
				}
			}
		}
	}
}

func TestPpuTickAtEachTime(t *testing.T) {
	for _, from := range []int{0, 64, 128, 6400, 64 * (wholePeriods - 1)} {
		for phase := range 64 {
			for _, ctrl := range []int{0, 1, 126, 127, 128, 129, 255} {
				for _, blank := range bothBlanks {
					checkTick(t, turned(ppuAt(from+phase), func(p *impl.Ppu) { p.Ctrl, p.Blank = ctrl, blank }))
				}
			}
		}
	}
	for now := 19968; now <= 20000; now++ {
		checkTick(t, ppuAt(now))
	}
}

func TestPpuTickAtMaxTime(t *testing.T) {
	early := ppuAt(19999)
	p, told, asks := impl.PpuTick(early)
	want := turned(early, func(p *impl.Ppu) { p.T, p.Dots = 20000, append(p.Dots, wantDots(early)[31]) })
	if !samePpu(p, want) || len(told) != 0 || asks {
		t.Errorf("at MaxTime - 1: %+v, %v, %v, want %+v", p, told, asks, want)
	}
	for _, blank := range bothBlanks {
		over := turned(ppuAt(20000), func(p *impl.Ppu) { p.Blank = blank })
		p, told, asks = impl.PpuTick(over)
		if !samePpu(p, over) || len(p.Dots) != 32 || len(told) != 0 || asks {
			t.Errorf("at MaxTime: %+v, %v, %v, want %+v", p, told, asks, over)
		}
	}
}

func TestPpuTickOfWhatIsNotRight(t *testing.T) {
	for name, p := range wrongPpus() {
		was := copyOfPpu(p)
		q, told, asks := impl.PpuTick(p)
		if !samePpu(q, impl.Ppu{}) || len(told) != 0 || asks {
			t.Errorf("%s: %+v, %v, %v", name, q, told, asks)
		}
		if !samePpu(p, was) {
			t.Errorf("%s: written into", name)
		}
	}
}

// countPictures is how many pictures the next Period ticks tell; each must have Seen dots.
func countPictures(t *testing.T, p impl.Ppu) (impl.Ppu, int) {
	t.Helper()
	pictures := 0
	for range impl.Period {
		var told []int
		p, told, _ = impl.PpuTick(p)
		switch len(told) {
		case 0:
		case impl.Seen:
			pictures++
		default:
			t.Fatalf("a picture of %d dots, ahead of %d", len(told), p.T)
		}
	}
	return p, pictures
}

func TestP8InEachPeriodJustOnePictureIsTold(t *testing.T) {
	for _, from := range []int{0, 64, 64 * 100, 64 * (wholePeriods - 1)} {
		for phase := range 64 {
			for _, ctrl := range []int{0, 128} {
				start := turned(ppuAt(from+phase), func(p *impl.Ppu) { p.Ctrl = ctrl })
				if start.T+64 > 20000 {
					continue
				}
				p, pictures := countPictures(t, start)
				if pictures != 1 || p.T != start.T+64 {
					t.Errorf("from %d on: %d pictures, until %d", start.T, pictures, p.T)
				}
			}
		}
	}
}

func TestP8FromTheFirstCycleToTheLast(t *testing.T) {
	p := turned(ppuAt(0), func(p *impl.Ppu) { p.Blank = false })
	want := wantDots(p)
	pictures, asked := 0, 0
	for range 20000 {
		q, told, asks := impl.PpuTick(p)
		if len(told) > 0 {
			pictures++
			if p.T%64 != 48 || !slices.Equal(told, want) {
				t.Fatalf("at %d was told %v, want %v", p.T, told, want)
			}
		}
		asked += one(asks)
		if q.T != p.T+1 || !impl.PpuOk(q) || q.Blank != (q.T%64 > 48) {
			t.Fatalf("behind %d: %+v", p.T, q)
		}
		p = q
	}
	if pictures != wholePeriods || asked != wholePeriods || len(p.Dots) != 32 {
		t.Errorf("%d pictures, asked %d times, %d dots at the end", pictures, asked, len(p.Dots))
	}
}

func TestAPictureIsOfWhatWasPutAtEachDot(t *testing.T) {
	p := turned(ppuAt(64), func(p *impl.Ppu) { p.Scroll, p.Pal = 0, 0 })
	var want []int
	for at := range 48 {
		p = impl.PpuWrite(p, 1, at*5)
		p = impl.PpuWrite(p, 5, at)
		p = impl.PpuWrite(p, 4, at*7)
		want = append(want, wantDots(p)[at])
		p, _, _ = impl.PpuTick(p)
	}
	if _, told, _ := impl.PpuTick(p); !slices.Equal(told, want) {
		t.Errorf("told %v, want %v", told, want)
	}
}

// wantWrite is what the chapter says of a write to a right unit.
func wantWrite(p impl.Ppu, reg int, v int) impl.Ppu {
	q, b := copyOfPpu(p), leftBy(v, 256)
	switch reg {
	case 0:
		q.Ctrl = b
	case 1:
		q.Scroll = b
	case 3:
		q.Addr = b % 16
	case 4:
		q.Table[p.Addr] = b % 64
		q.Addr = (p.Addr + 1) % 16
	case 5:
		q.Pal = b % 64
	}
	return q
}

// wantRead is what the chapter says of a read of a right unit.
func wantRead(p impl.Ppu, reg int) (impl.Ppu, int) {
	q := copyOfPpu(p)
	switch reg {
	case 2:
		q.Blank = false
		return q, 128 * one(p.Blank)
	case 4:
		q.Addr = (p.Addr + 1) % 16
		return q, p.Table[p.Addr]
	}
	return q, 0
}

func checkWrite(t *testing.T, p impl.Ppu, reg int, v int, want impl.Ppu) {
	t.Helper()
	was := copyOfPpu(p)
	if got := impl.PpuWrite(p, reg, v); !samePpu(got, want) {
		t.Fatalf("PpuWrite(%+v, %d, %d) = %+v, want %+v", p, reg, v, got, want)
	}
	if !samePpu(p, was) {
		t.Fatalf("PpuWrite(.., %d, %d) wrote into %+v", reg, v, was)
	}
}

func checkRead(t *testing.T, p impl.Ppu, reg int, want impl.Ppu, wantV int) {
	t.Helper()
	was := copyOfPpu(p)
	if got, v := impl.PpuRead(p, reg); !samePpu(got, want) || v != wantV {
		t.Fatalf("PpuRead(%+v, %d) = %+v, %d, want %+v, %d", p, reg, got, v, want, wantV)
	}
	if !samePpu(p, was) {
		t.Fatalf("PpuRead(.., %d) wrote into %+v", reg, was)
	}
}

func TestPpuWriteByHand(t *testing.T) {
	start := ppuAt(20)
	for _, e := range []struct {
		reg, v int
		change func(*impl.Ppu)
	}{
		{0, 0, func(p *impl.Ppu) { p.Ctrl = 0 }},
		{0, 255, func(p *impl.Ppu) { p.Ctrl = 255 }},
		{0, 256, func(p *impl.Ppu) { p.Ctrl = 0 }},
		{0, -1, func(p *impl.Ppu) { p.Ctrl = 255 }},
		{1, 16, func(p *impl.Ppu) { p.Scroll = 16 }},
		{1, 255, func(p *impl.Ppu) { p.Scroll = 255 }},
		{1, 256, func(p *impl.Ppu) { p.Scroll = 0 }},
		{1, math.MaxInt, func(p *impl.Ppu) { p.Scroll = 255 }},
		{2, 1, func(p *impl.Ppu) {}},
		{3, 15, func(p *impl.Ppu) { p.Addr = 15 }},
		{3, 16, func(p *impl.Ppu) { p.Addr = 0 }},
		{3, 255, func(p *impl.Ppu) { p.Addr = 15 }},
		{3, 258, func(p *impl.Ppu) { p.Addr = 2 }},
		{3, -1, func(p *impl.Ppu) { p.Addr = 15 }},
		{3, math.MinInt, func(p *impl.Ppu) { p.Addr = 0 }},
		{4, 63, func(p *impl.Ppu) { p.Table[9], p.Addr = 63, 10 }},
		{4, 64, func(p *impl.Ppu) { p.Table[9], p.Addr = 0, 10 }},
		{4, 255, func(p *impl.Ppu) { p.Table[9], p.Addr = 63, 10 }},
		{4, 256, func(p *impl.Ppu) { p.Table[9], p.Addr = 0, 10 }},
		{4, -1, func(p *impl.Ppu) { p.Table[9], p.Addr = 63, 10 }},
		{5, 63, func(p *impl.Ppu) { p.Pal = 63 }},
		{5, 64, func(p *impl.Ppu) { p.Pal = 0 }},
		{5, 70, func(p *impl.Ppu) { p.Pal = 6 }},
		{5, -1, func(p *impl.Ppu) { p.Pal = 63 }},
		{6, 1, func(p *impl.Ppu) {}},
		{7, 1, func(p *impl.Ppu) {}},
		{8, 1, func(p *impl.Ppu) {}},
		{-1, 1, func(p *impl.Ppu) {}},
	} {
		checkWrite(t, start, e.reg, e.v, turned(start, e.change))
	}
	last := turned(start, func(p *impl.Ppu) { p.Addr = 15 })
	checkWrite(t, last, 4, 3, turned(last, func(p *impl.Ppu) { p.Table[15], p.Addr = 3, 0 }))
	first := turned(start, func(p *impl.Ppu) { p.Addr = 0 })
	checkWrite(t, first, 4, 3, turned(first, func(p *impl.Ppu) { p.Table[0], p.Addr = 3, 1 }))
}

func TestPpuReadByHand(t *testing.T) {
	for _, now := range []int{0, 20, 48, 49, 63, 20000} {
		blank := turned(ppuAt(now), func(p *impl.Ppu) { p.Addr = 15 })
		seen := turned(blank, func(p *impl.Ppu) { p.Blank, p.Addr = false, 0 })
		checkRead(t, blank, 2, turned(blank, func(p *impl.Ppu) { p.Blank = false }), 128)
		checkRead(t, seen, 2, seen, 0)
		checkRead(t, blank, 4, turned(blank, func(p *impl.Ppu) { p.Addr = 0 }), blank.Table[15])
		checkRead(t, seen, 4, turned(seen, func(p *impl.Ppu) { p.Addr = 1 }), seen.Table[0])
		for _, reg := range []int{-1, 0, 1, 3, 5, 6, 7, 8, math.MinInt, math.MaxInt} {
			checkRead(t, blank, reg, blank, 0)
			checkRead(t, seen, reg, seen, 0)
		}
	}
}

func TestPpuWriteAndReadOfEachKind(t *testing.T) {
	for _, now := range []int{0, 1, 47, 48, 49, 63, 64, 20000} {
		for _, blank := range bothBlanks {
			for addr := range 16 {
				p := turned(ppuAt(now), func(p *impl.Ppu) { p.Addr, p.Blank = addr, blank })
				for _, reg := range someRegs {
					want, wantV := wantRead(p, reg)
					checkRead(t, p, reg, want, wantV)
					for _, v := range someBytes {
						checkWrite(t, p, reg, v, wantWrite(p, reg, v))
					}
				}
			}
		}
	}
}

func TestPpuWriteOfEachByte(t *testing.T) {
	for reg := range 8 {
		for v := range 256 {
			checkWrite(t, ppuAt(30), reg, v, wantWrite(ppuAt(30), reg, v))
		}
		for _, e := range byteEdges {
			checkWrite(t, ppuAt(30), reg, e.x, wantWrite(ppuAt(30), reg, e.asByte))
		}
	}
}

func TestPpuWriteAndReadOfWhatIsNotRight(t *testing.T) {
	for name, p := range wrongPpus() {
		was := copyOfPpu(p)
		for _, reg := range someRegs {
			if got, v := impl.PpuRead(p, reg); !samePpu(got, was) || v != 0 {
				t.Errorf("%s: PpuRead for %d = %+v, %d", name, reg, got, v)
			}
			for _, v := range someBytes {
				if got := impl.PpuWrite(p, reg, v); !samePpu(got, was) {
					t.Errorf("%s: PpuWrite for %d of %d = %+v", name, reg, v, got)
				}
			}
		}
		if !samePpu(p, was) {
			t.Errorf("%s: written into", name)
		}
	}
}

func TestP8WhatIsWrittenToTheTableIsReadThere(t *testing.T) {
	for addr := range 16 {
		for v := range 256 {
			p := impl.PpuWrite(ppuAt(5), 3, addr)
			p = impl.PpuWrite(p, 4, v)
			p = impl.PpuWrite(p, 3, addr)
			p, got := impl.PpuRead(p, 4)
			if got != v%64 || p.Addr != (addr+1)%16 {
				t.Errorf("%d was written at %d: %d is read, Addr is %d", v, addr, got, p.Addr)
			}
		}
	}
}

func TestP8AWholeTableIsReadAsItWasWritten(t *testing.T) {
	for addr := range 16 {
		p := impl.PpuWrite(ppuAt(70), 3, addr)
		for i := range 16 {
			p = impl.PpuWrite(p, 4, 3*i+1)
		}
		for i := range 32 {
			var v int
			p, v = impl.PpuRead(p, 4)
			if want := i%16*3 + 1; v != want {
				t.Errorf("from %d on, read number %d: %d, want %d", addr, i, v, want)
			}
		}
		if p.Addr != addr || p.T != 70 || !impl.PpuOk(p) {
			t.Errorf("from %d on: %+v", addr, p)
		}
	}
}

func TestP8NoWriteAndNoReadTurnsTheTime(t *testing.T) {
	for now := 0; now <= 20000; now += 61 {
		p := ppuAt(now)
		for _, reg := range someRegs {
			for _, v := range []int{0, 128, 255, math.MinInt, math.MaxInt} {
				p = impl.PpuWrite(p, reg, v)
				p, _ = impl.PpuRead(p, reg)
				if p.T != now || !slices.Equal(p.Dots, ppuAt(now).Dots) || !impl.PpuOk(p) {
					t.Fatalf("at %d, for %d: %+v", now, reg, p)
				}
			}
		}
	}
}

// roomyPpu is a copy of a unit with spare room behind its lists, and a way to see whether that was written into.
func roomyPpu(p impl.Ppu) (impl.Ppu, func() bool) {
	table, cleanTable := roomyMem(p.Table, 0)
	dots, cleanDots := roomyMem(p.Dots, 0)
	p.Table, p.Dots = table.Ram, dots.Ram
	return p, func() bool { return cleanTable() && cleanDots() }
}

// somePpus are right ones, at each kind of cycle, and wrong ones.
func somePpus() map[string]impl.Ppu {
	some := wrongPpus()
	for _, phase := range somePhases {
		some[fmt.Sprint("right at ", phase)] = ppuAt(phase)
	}
	some["right at the end"] = ppuAt(20000)
	return some
}

func TestPpuArgumentsStayAsTheyWere(t *testing.T) {
	for name, start := range somePpus() {
		p, clean := roomyPpu(start)
		impl.PpuOk(p)
		impl.PpuTick(p)
		for _, at := range []int{-1, 0, 47, 48} {
			impl.Dot(p, at)
		}
		for _, reg := range someRegs {
			impl.PpuRead(p, reg)
			impl.PpuWrite(p, reg, 66)
		}
		if !samePpu(p, start) || !clean() {
			t.Errorf("%s: written into", name)
		}
	}
}

// spoil changes all of a list, and what stands behind it.
func spoil(list []int, v int) {
	list = list[:cap(list)]
	for i := range list {
		list[i] = v
	}
}

// checkNewPpu: the lists of an answer turn neither with each other, nor with the argument, nor with another answer.
func checkNewPpu(t *testing.T, name string, start impl.Ppu, answer func(impl.Ppu) (impl.Ppu, []int)) {
	t.Helper()
	p, _ := roomyPpu(start)
	got, told := answer(p)
	again, toldAgain := answer(p)
	want, wantTold := copyOfPpu(got), slices.Clone(told)
	spoil(got.Table, -7)
	if !slices.Equal(got.Dots, want.Dots) || !slices.Equal(told, wantTold) {
		t.Errorf("%s: one list of an answer turned with its Table", name)
	}
	spoil(got.Dots, -8)
	if !slices.Equal(told, wantTold) || slices.Contains(got.Table, -8) {
		t.Errorf("%s: one list of an answer turned with its Dots", name)
	}
	spoil(told, -9)
	if slices.Contains(got.Table, -9) || slices.Contains(got.Dots, -9) {
		t.Errorf("%s: one list of an answer turned with the picture", name)
	}
	if !samePpu(p, start) {
		t.Errorf("%s: the argument turned with its answer", name)
	}
	spoil(p.Table, -10)
	spoil(p.Dots, -11)
	if !samePpu(again, want) || !slices.Equal(toldAgain, wantTold) {
		t.Errorf("%s: an answer turned with its argument, or with another answer", name)
	}
}

func TestPpuAnswersAreNewMemory(t *testing.T) {
	for name, p := range somePpus() {
		checkNewPpu(t, "PpuTick, "+name, p, func(p impl.Ppu) (impl.Ppu, []int) {
			q, told, _ := impl.PpuTick(p)
			return q, told
		})
		for _, reg := range someRegs {
			checkNewPpu(t, fmt.Sprint("PpuWrite for ", reg, ", ", name), p, func(p impl.Ppu) (impl.Ppu, []int) {
				return impl.PpuWrite(p, reg, 77), nil
			})
			checkNewPpu(t, fmt.Sprint("PpuRead for ", reg, ", ", name), p, func(p impl.Ppu) (impl.Ppu, []int) {
				q, _ := impl.PpuRead(p, reg)
				return q, nil
			})
		}
	}
}

func TestPpuListsThatShareOneRoom(t *testing.T) {
	for _, phase := range somePhases {
		room := append(dotsOf(48), tableOf()...)
		many := dotsBy(phase)
		p := turned(ppuAt(phase), func(p *impl.Ppu) {})
		p.Dots, p.Table = room[:many], room[32:48]
		was := slices.Clone(room)
		want, wantTold, wantAsks := wantTick(p)
		q, told, asks := impl.PpuTick(p)
		if !samePpu(q, want) || !slices.Equal(told, wantTold) || asks != wantAsks {
			t.Errorf("at %d: PpuTick = %+v, %v, %v, want %+v, %v, %v", phase, q, told, asks, want, wantTold, wantAsks)
		}
		checkWrite(t, p, 4, 1, wantWrite(p, 4, 1))
		if !slices.Equal(room, was) {
			t.Errorf("at %d: the room was written into", phase)
		}
	}
}
