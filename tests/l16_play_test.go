package tests

import (
	"fmt"
	"maps"
	"math"
	"runtime"
	"slices"
	"sync"
	"testing"

	"loop.example/g00231/impl"
)

// nobody are picks that are none of the three.
var nobody = []int{math.MinInt, math.MinInt + 1, -1 << 32, -256, -3, -2, -1, 3, 4, 5, 255, 256, 1 << 32, 1<<32 + 1, math.MaxInt - 1, math.MaxInt}

// wantPick is for a right console.
func wantPick(s impl.Split, who int) (impl.Split, bool) {
	w, done := copyOfSplit(s), false
	switch who {
	case 0:
		return wantCpuStep(s)
	case 1:
		w.Picture, done = pictures().wantStep(s.Picture, s.T)
	case 2:
		w.Sound, done = sounds().wantStep(s.Sound, s.T)
	}
	return w, done
}

// wantPlay is for a right console, and a row that is not too long.
func wantPlay(s impl.Split, row []int) (impl.Split, int) {
	s, many := copyOfSplit(s), 0
	for _, who := range row {
		var done bool
		s, done = wantPick(s, who)
		many += one(done)
	}
	return s, many
}

func wantAble(s impl.Split) []int {
	var able []int
	for who := range 3 {
		if _, done := wantPick(s, who); done {
			able = append(able, who)
		}
	}
	return able
}

func wantLevel(s impl.Split) impl.Split {
	s = copyOfSplit(s)
	s.Picture, s.Sound = pictures().wantCatch(s.Picture, s.T), sounds().wantCatch(s.Sound, s.T)
	return s
}

// wantFair is for a right console.
func wantFair(s impl.Split, steps int) (impl.Split, int) {
	s = copyOfSplit(s)
	for many := 0; many < min(steps, 3000); many++ {
		var done bool
		if s, done = wantCpuStep(wantLevel(s)); !done {
			return s, many
		}
	}
	return s, max(0, min(steps, 3000))
}

// checkWithin is the first part of P16: no unit is ahead of the processor, no record of a time behind that of its unit
// or ahead of the processor, and no ring has more than its Cap.
func checkWithin(t *testing.T, what string, s impl.Split) {
	t.Helper()
	if s.Picture.Ppu.T > s.T || s.Sound.Apu.T > s.T {
		t.Fatalf("%s: a unit is ahead: %s", what, tellSplit(s))
	}
	for _, e := range []struct {
		t int
		r impl.Ring
	}{{s.Picture.Ppu.T, s.Picture.Ring}, {s.Sound.Apu.T, s.Sound.Ring}} {
		if len(e.r.List) > e.r.Cap || slices.ContainsFunc(e.r.List, func(x impl.Rec) bool { return x.T < e.t || x.T > s.T }) {
			t.Fatalf("%s: not such a ring: %s", what, tellSplit(s))
		}
	}
	if !impl.SplitOk(s) {
		t.Fatalf("%s: not right: %s", what, tellSplit(s))
	}
}

// withUnits is s with the units of another console, so that the processor's side may be compared by itself.
func withUnits(s, of impl.Split) impl.Split {
	s.Picture, s.Sound = of.Picture, of.Sound
	return s
}

// checkPick is for a right console. One that does nothing turns nothing; one of a unit turns that unit alone.
func checkPick(t *testing.T, what string, s impl.Split, who int) (impl.Split, bool) {
	t.Helper()
	what = fmt.Sprint(what, ": pick ", who)
	was := copyOfSplit(s)
	want, wantDone := wantPick(s, who)
	got, done := impl.Pick(s, who)
	if done != wantDone {
		t.Fatalf("%s is %v, of %s", what, done, tellSplit(s))
	}
	checkSplit(t, what, got, want)
	checkSplit(t, what+": the argument", s, was)
	if !done {
		checkSplit(t, what+": as it was", got, was)
	}
	if who != impl.PkCpu {
		checkSplit(t, what+": the processor", withUnits(got, was), was)
	}
	if who == impl.PkPicture && !sameSound(got.Sound, was.Sound) || who == impl.PkSound && !samePicture(got.Picture, was.Picture) {
		t.Fatalf("%s turns the other unit: %s", what, tellSplit(got))
	}
	checkWithin(t, what, got)
	return got, done
}

func checkPlay(t *testing.T, what string, s impl.Split, row []int, want impl.Split, wantMany int) {
	t.Helper()
	was, rowWas := copyOfSplit(s), slices.Clone(row)
	got, many := impl.Play(s, row)
	if many != wantMany {
		t.Fatalf("%s: Play of %d picks is %d, want %d", what, len(row), many, wantMany)
	}
	checkSplit(t, what+": Play", got, want)
	checkSplit(t, what+": the argument of Play", s, was)
	if !slices.Equal(row, rowWas) {
		t.Fatalf("%s: the row is %v, was %v", what, row, rowWas)
	}
}

func checkAble(t *testing.T, what string, s impl.Split, want []int) {
	t.Helper()
	was := copyOfSplit(s)
	if got := impl.Able(s); !slices.Equal(got, want) {
		t.Fatalf("%s: Able is %v, want %v, of %s", what, got, want, tellSplit(s))
	}
	checkSplit(t, what+": the argument of Able", s, was)
}

// checkLevel is the last part of P16, of a right console: both units are caught up, again it is as it is, and nothing is waited for.
func checkLevel(t *testing.T, what string, s impl.Split) impl.Split {
	t.Helper()
	was := copyOfSplit(s)
	got := impl.Level(s)
	checkSplit(t, what+": Level", got, wantLevel(s))
	checkSplit(t, what+": the argument of Level", s, was)
	if !isThere(got, got.Picture.Ppu.T, got.Picture.Ring) || !isThere(got, got.Sound.Apu.T, got.Sound.Ring) {
		t.Fatalf("%s: Level, but not caught up: %s", what, tellSplit(got))
	}
	checkSplit(t, what+": the processor", withUnits(got, was), was)
	checkSplit(t, what+": Level again", impl.Level(got), got)
	checkWithin(t, what, got)
	switch wait, able := impl.Wait(got), impl.Able(got); {
	case wait == impl.WtNone && slices.Equal(able, []int{impl.PkCpu}):
	case wait == impl.WtOver && len(able) == 0:
	default:
		t.Fatalf("%s: Level it waits for %d, and able are %v: %s", what, wait, able, tellSplit(got))
	}
	return got
}

func checkFair(t *testing.T, what string, s impl.Split, steps int, want impl.Split, wantMany int) {
	t.Helper()
	was := copyOfSplit(s)
	got, many := impl.Fair(s, steps)
	if many != wantMany {
		t.Fatalf("%s: Fair of %d steps is %d, want %d", what, steps, many, wantMany)
	}
	checkSplit(t, fmt.Sprint(what, ": Fair of ", steps), got, want)
	checkSplit(t, what+": the argument of Fair", s, was)
}

// mixedRow is a row of so many picks, another for each seed: all alike often, the processor more often than the units,
// they more often than it, one unit hardly ever, runs of the same; and in some nobody, here and there.
func mixedRow(seed, many int) []int {
	state := uint64(seed)*2862933555777941757 + 3037000493
	next := func(by int) int {
		state = state*6364136223846793005 + 1442695040888963407
		return int(state >> 33 % uint64(by))
	}
	likely := [][]int{
		{0, 1, 2}, {0, 0, 0, 0, 0, 1, 2}, {0, 1, 1, 1, 1, 2, 2, 2, 2}, {0, 0, 1, 1, 1, 1, 1, 1, 1}, {0, 0, 2, 2, 2, 2, 2, 2, 2}, {0, 0, 0, 0, 0, 0, 0, 0, 1},
		{0, 1, 2, nobody[next(len(nobody))], nobody[next(len(nobody))]},
	}[seed%7]
	var row []int
	for len(row) < many {
		who := likely[next(len(likely))]
		row = append(row, slices.Repeat([]int{who}, 1+seed/7%2*next(30))...)
	}
	return row[:many]
}

// newApart is a new console, of a ring of each size by the seed.
func newApart(t *testing.T, seed int) impl.Split {
	t.Helper()
	s, ok := impl.SplitNew(programOf(seed), padsOf(seed%21), 1+seed%16)
	if !ok {
		t.Fatal("no console")
	}
	return s
}

// loopingApart is a console that does these lines again and again.
func loopingApart(t *testing.T, text string, cap int) impl.Split {
	t.Helper()
	s, ok := impl.SplitNew(looping(t, text).Img, nil, cap)
	if !ok {
		t.Fatal("no console")
	}
	return s
}

func TestPlayConstants(t *testing.T) {
	if got := []int{impl.PkCpu, impl.PkPicture, impl.PkSound, impl.MaxPicks}; !slices.Equal(got, []int{0, 1, 2, 3000}) {
		t.Error("constants", got)
	}
}

// TestPlayByHand: each pick with what it comes to; the ring has room for one record.
func TestPlayByHand(t *testing.T) {
	s := loopingApart(t, "ldi 200\nsta 8192\nsta 8193\nlda 8194\nsta 16385\njmp 49166\n", 1)
	row := []int{1, 2, 0, 2, 0, 0, 1, 1, 1, 0, 7, 0, 1, 1, 1, 1, 1, 0, 1, 0, 0, 0}
	for n, e := range []struct {
		done               bool
		t, picture, sound  int
		records, soundRecs int
		wait               int
		able               []int
	}{
		{false, 0, 0, 0, 0, 0, 0, []int{0}}, {false, 0, 0, 0, 0, 0, 0, []int{0}}, // nobody has anything to come after
		{true, 2, 0, 0, 0, 0, 0, []int{0, 1, 2}}, {true, 2, 0, 1, 0, 0, 0, []int{0, 1, 2}}, // ldi, a cycle of sound
		{true, 6, 0, 1, 1, 0, 3, []int{1, 2}}, {false, 6, 0, 1, 1, 0, 3, []int{1, 2}}, // sta: there is no room for the other one
		{true, 6, 1, 1, 1, 0, 3, []int{1, 2}}, {true, 6, 2, 1, 1, 0, 3, []int{1, 2}}, {true, 6, 2, 1, 0, 0, 0, []int{0, 1, 2}}, // two cycles, the record of 2
		{true, 10, 2, 1, 1, 0, 1, []int{1, 2}}, {false, 10, 2, 1, 1, 0, 1, []int{1, 2}}, {false, 10, 2, 1, 1, 0, 1, []int{1, 2}}, // sta; lda waits
		{true, 10, 3, 1, 1, 0, 1, []int{1, 2}}, {true, 10, 4, 1, 1, 0, 1, []int{1, 2}}, {true, 10, 5, 1, 1, 0, 1, []int{1, 2}},
		{true, 10, 6, 1, 1, 0, 1, []int{1, 2}}, {true, 10, 6, 1, 0, 0, 1, []int{1, 2}}, // four cycles, and the record of 6
		{false, 10, 6, 1, 0, 0, 1, []int{1, 2}}, {true, 10, 7, 1, 0, 0, 1, []int{1, 2}},
	} {
		var done bool
		s, done = checkPick(t, fmt.Sprint("by hand ", n), s, row[n])
		if done != e.done || s.T != e.t || s.Picture.Ppu.T != e.picture || s.Sound.Apu.T != e.sound ||
			len(s.Picture.Ring.List) != e.records || len(s.Sound.Ring.List) != e.soundRecs || impl.Wait(s) != e.wait {
			t.Fatalf("pick %d: %v, waits for %d, %s, want %+v", n, done, impl.Wait(s), tellSplit(s), e)
		}
		checkAble(t, fmt.Sprint("by hand ", n), s, e.able)
	}
	if s.Picture.Ppu.Ctrl != 200 || s.Picture.Ppu.Scroll != 200 || s.Ctrl != 200 || s.Steps != 3 {
		t.Errorf("at the end: %s", tellSplit(s))
	}
	level := checkLevel(t, "by hand", s)
	if level.Picture.Ppu.T != 10 || level.Sound.Apu.T != 10 || level.T != 10 || level.Steps != 3 {
		t.Errorf("Level: %s", tellSplit(level))
	}
	got, many := impl.Fair(level, 3) // lda, sta, jmp
	if many != 3 || got.T != 21 || got.Picture.Ppu.T != 18 || got.Sound.Apu.T != 18 || len(got.Sound.Ring.List) != 0 || got.Sound.Apu.Length != 0 || !slices.Equal(got.Reads, []int{0}) {
		t.Errorf("Fair: %d, %s", many, tellSplit(got))
	}
	start := loopingApart(t, "ldi 200\nsta 8192\nsta 8193\nlda 8194\nsta 16385\njmp 49166\n", 1)
	checkPlay(t, "by hand", start, row[:19], s, 13)
}

// TestPickOfTheProcessor: it does something where it waits for nothing, and turns nothing for each of the other answers of Wait.
func TestPickOfTheProcessor(t *testing.T) {
	behind := splitBehind(84, 10, 20, 2)
	full := splitWith(behind, func(s *impl.Split) { s.Picture.Ring.List, s.Sound.Ring.List = recsAt(84, 84), recsAt(84, 84) })
	unknown := splitWith(behind, func(s *impl.Split) { s.Cpu.I, s.KnownAt = false, 50 })
	for _, e := range []struct {
		what string
		s    impl.Split
		wait int
	}{
		{"an op", doing(behind, "inx", 0), impl.WtNone}, {"an op, with full rings", doing(full, "sta", 7), impl.WtNone},
		{"a record", doing(behind, "sta", 8192), impl.WtNone}, {"Nmi", splitWith(unknown, func(s *impl.Split) { s.Nmi = true }), impl.WtNone},
		{"a picture unit that is behind", doing(behind, "lda", 8194), impl.WtPicture},
		{"a sound unit that is behind", doing(behind, "lda", 16386), impl.WtSound},
		{"what is not known", doing(unknown, "nop", 0), impl.WtSound},
		{"room for pictures", doing(full, "sta", 8193), impl.WtPictureRoom}, {"room for sounds", doing(full, "sta", 16385), impl.WtSoundRoom},
		{"over", doing(splitBehind(19999, 10, 10, 2), "nop", 0), impl.WtOver}, {"over, Nmi", splitWith(splitAt(19994), func(s *impl.Split) { s.Nmi = true }), impl.WtOver},
	} {
		if wait := impl.Wait(e.s); wait != e.wait {
			t.Fatalf("%s: Wait is %d, want %d", e.what, wait, e.wait)
		}
		got, done := checkPick(t, e.what, e.s, impl.PkCpu)
		if done != (e.wait == impl.WtNone) || got.Steps != e.s.Steps+one(done) {
			t.Errorf("%s: %v, Steps %d", e.what, done, got.Steps)
		}
		if !samePicture(withRing(got.Picture, e.s.Picture), e.s.Picture) || !sameSound(withSoundRing(got.Sound, e.s.Sound), e.s.Sound) {
			t.Errorf("%s: more of a unit than its ring is turned: %s", e.what, tellSplit(got))
		}
	}
	heard := splitWith(doing(splitAt(84), "lda", 8194), func(s *impl.Split) {
		s.Cpu.I, s.Known, s.KnownAt, s.Sound.Apu.Irq, s.Picture = false, true, 50, false, pictureAt(80)
	})
	if got, done := checkPick(t, "heard, but the picture unit is behind", heard, impl.PkCpu); done || got.KnownAt != 50 || !got.Known {
		t.Errorf("what was heard is kept by a pick that does nothing: %v, %s", done, tellSplit(got))
	}
}

func withRing(w, of impl.Picture) impl.Picture {
	w.Ring = of.Ring
	return w
}

func withSoundRing(w, of impl.Sound) impl.Sound {
	w.Ring = of.Ring
	return w
}

// TestPickOfAUnit: a record of its very time, or a cycle ahead of T; nothing where it is caught up.
func TestPickOfAUnit(t *testing.T) {
	for _, at := range []int{0, 1, 2, 47, 48, 49, 63, 64, 84, 300, 19999, 20000} {
		for _, back := range []int{0, 1, 2, 17, 50} {
			for _, times := range [][]int{nil, {0}, {0, 0}, {back}, {0, back}, {back, back, back}, {back / 2}, {back / 2, back}} {
				if back > at {
					continue
				}
				var list []impl.Rec
				for _, after := range times {
					list = append(list, impl.Rec{T: at - back + after, Reg: after % 8, V: 77})
				}
				s := splitAt(at)
				s.Picture, s.Sound = pictureAt(at-back, list...), soundAt(at-back, list...)
				takes := len(times) > 0 && times[0] == 0
				for who := 1; who <= 2; who++ {
					what := fmt.Sprint("units ", back, " behind ", at, ", records ", times)
					got, done := checkPick(t, what, s, who)
					now, left := got.Picture.Ppu.T, len(got.Picture.Ring.List)
					if who == impl.PkSound {
						now, left = got.Sound.Apu.T, len(got.Sound.Ring.List)
					}
					if done != (back > 0 || len(times) > 0) || now != at-back+one(done && !takes) || left != len(times)-one(takes) {
						t.Fatalf("%s: pick %d is %v, at %d with %d records", what, who, done, now, left)
					}
				}
			}
		}
	}
}

func TestPickOfNobody(t *testing.T) {
	for name, s := range someSplits() {
		if !impl.SplitOk(s) {
			continue
		}
		for _, who := range nobody {
			if got, done := checkPick(t, name, s, who); done || !sameSplit(got, s) {
				t.Fatalf("%s: pick %d is %v", name, who, done)
			}
		}
	}
}

// TestPlayedConsolesThatAreNotRight: zero and false; zero, with -1 where the row is too long; nobody able; Level as it was.
func TestPlayedConsolesThatAreNotRight(t *testing.T) {
	long := make([]int, 3001)
	for name, start := range wrongSplits() {
		for kind := range 2 {
			s := splitWith(start, func(s *impl.Split) { s.Nmi, s.Cpu.I = kind == 0, kind == 0 })
			was := copyOfSplit(s)
			for _, who := range append([]int{0, 1, 2}, nobody...) {
				got, done := impl.Pick(s, who)
				if done {
					t.Fatalf("%s: pick %d is true", name, who)
				}
				checkSplit(t, name+": Pick", got, impl.Split{})
			}
			for _, row := range [][]int{{0}, {1}, {2}, {3}, {-1, math.MinInt}, {0, 1, 2, 0, 1, 2}, long[:3000]} {
				checkPlay(t, name, s, row, impl.Split{}, 0)
			}
			checkPlay(t, name+", too long", s, long, impl.Split{}, -1)
			checkPlay(t, name+", nobody", s, nil, was, 0)
			checkAble(t, name, s, nil)
			checkSplit(t, name+": Level", impl.Level(s), was)
			for _, steps := range []int{math.MinInt, -1, 0, 1, 2, 3000, 3001, math.MaxInt} {
				checkFair(t, name, s, steps, impl.Split{}, 0)
			}
			checkSplit(t, name+": the argument", s, was)
		}
	}
}

// TestPlayedConsolesWithTheLeastAndTheGreatestInt, in every number by itself, and in all at once.
func TestPlayedConsolesWithTheLeastAndTheGreatestInt(t *testing.T) {
	start := func() impl.Split {
		s := splitAt(84)
		s.Picture, s.Sound = pictureAt(84, recsAt(84)...), soundAt(84, recsAt(84)...)
		return s
	}
	check := func(what string, s impl.Split) {
		t.Helper()
		was := copyOfSplit(s)
		for _, who := range []int{0, 1, 2, 3, math.MinInt, math.MaxInt} {
			if got, done := impl.Pick(s, who); done || !sameSplit(got, impl.Split{}) {
				t.Fatalf("%s: pick %d is %v, %s", what, who, done, tellSplit(got))
			}
		}
		checkPlay(t, what, s, []int{0, 1, 2}, impl.Split{}, 0)
		checkPlay(t, what, s, make([]int, 3001), impl.Split{}, -1)
		checkAble(t, what, s, nil)
		checkSplit(t, what+": Level", impl.Level(s), was)
		for _, steps := range []int{math.MinInt, 0, 5, math.MaxInt} {
			checkFair(t, what, s, steps, impl.Split{}, 0)
		}
	}
	right := start()
	for _, v := range []int{math.MinInt, math.MinInt + 1, math.MaxInt - 1, math.MaxInt} {
		all := start()
		for name := range numbersOfSplit(&right) {
			s := start()
			*numbersOfSplit(&s)[name] = v
			*numbersOfSplit(&all)[name] = v
			check(fmt.Sprint(name, " ", v), s)
		}
		check(fmt.Sprint("all ", v), all)
		free := start()
		free.Reads[0], free.Picture.Frames[0][5], free.Sound.Samples[1] = v, v, v
		for who := range 4 {
			checkPick(t, "what was read, seen and heard", free, who)
		}
		checkLevel(t, "what was read, seen and heard", free)
		want, many := wantFair(free, 5)
		checkFair(t, "what was read, seen and heard", free, 5, want, many)
	}
}

// TestP16PickByPick: over many consoles and rows of picks, what holds behind each pick.
func TestP16PickByPick(t *testing.T) {
	waits, sets := map[int]int{}, map[string]int{}
	for seed := range 112 {
		s := newApart(t, seed)
		for n, who := range mixedRow(seed, 500) {
			what := fmt.Sprint("seed ", seed, ", pick number ", n)
			wait := impl.Wait(s)
			waits[wait]++
			able := impl.Able(s)
			sets[fmt.Sprint(able)]++
			if len(able) == 0 && wait != impl.WtOver {
				t.Fatalf("%s: nobody is able, and it waits for %d", what, wait)
			}
			next, done := checkPick(t, what, s, who)
			if done != slices.Contains(able, who) {
				t.Fatalf("%s: able are %v, %d is %v", what, able, who, done)
			}
			if s = next; n%97 == 0 {
				checkLevel(t, what, s)
				checkAble(t, what, s, wantAble(s))
			}
		}
	}
	for _, why := range []int{impl.WtNone, impl.WtPicture, impl.WtSound, impl.WtPictureRoom, impl.WtSoundRoom} {
		if waits[why] < 20 {
			t.Errorf("%d was waited for %d times: %v", why, waits[why], waits)
		}
	}
	for _, set := range []string{"[0]", "[1]", "[2]", "[0 1]", "[0 2]", "[1 2]", "[0 1 2]"} {
		if sets[set] < 5 {
			t.Errorf("%s were able %d times: %v", set, sets[set], sets)
		}
	}
}

// TestP16ARowIsAPartAndThenTheRest, and the counts add up; the row is its picks, one behind the other.
func TestP16ARowIsAPartAndThenTheRest(t *testing.T) {
	for seed := range 40 {
		s := newApart(t, seed)
		if seed%3 == 1 { // not only from the beginning
			s, _ = impl.Play(s, mixedRow(seed+500, 800))
		}
		row := mixedRow(seed+100, []int{1, 2, 40, 500}[seed%4])
		want, many := wantPlay(s, row)
		checkPlay(t, fmt.Sprint("seed ", seed), s, row, want, many)
		picked, counted := s, 0
		for cut := range len(row) + 1 {
			if cut%max(1, len(row)/20) == 0 || cut > len(row)-2 {
				part, first := impl.Play(s, row[:cut])
				checkWithin(t, fmt.Sprint("seed ", seed, ", a part of ", cut), part)
				checkSplit(t, fmt.Sprint("seed ", seed, ", pick by pick ", cut), part, picked)
				if first != counted {
					t.Fatalf("seed %d: Play of %d is %d, of which %d were true", seed, cut, first, counted)
				}
				checkPlay(t, fmt.Sprint("seed ", seed, ", the rest from ", cut), part, row[cut:], want, many-first)
			}
			if cut < len(row) {
				var done bool
				picked, done = impl.Pick(picked, row[cut])
				counted += one(done)
			}
		}
	}
}

// TestPlayOfEachLength: of none, of MaxPicks, and of one more.
func TestPlayOfEachLength(t *testing.T) {
	nops, mixed := loopingApart(t, "nop\njmp 49152\n", 3), newApart(t, 5)
	for name, s := range map[string]impl.Split{"nops": nops, "mixed": mixed, "behind": splitBehind(300, 200, 100, 4), "over": splitBehind(20000, 20000, 20000, 2)} {
		for _, row := range [][]int{nil, {}, make([]int, 0, 5)} {
			checkPlay(t, name, s, row, s, 0)
		}
		row := mixedRow(len(name), 9000)
		for _, many := range []int{1, 2999, 3000} {
			want, done := wantPlay(s, row[:many])
			checkPlay(t, name, s, row[:many], want, done)
		}
		for _, many := range []int{3001, 3002, 6000, 9000} {
			checkPlay(t, name, s, row[:many], s, -1)
			checkPlay(t, name, s, make([]int, many), s, -1)
			checkPlay(t, name+", nobody", s, slices.Repeat([]int{math.MinInt}, many), s, -1)
		}
	}
	if got, many := impl.Play(nops, make([]int, 3000)); many != 3000 || got.Steps != 3000 || got.T != 7500 {
		t.Errorf("3000 steps: %d, to %d", many, got.T)
	}
}

func TestPlayOfNobody(t *testing.T) {
	s := newApart(t, 3)
	s, _ = impl.Play(s, mixedRow(11, 200))
	checkPlay(t, "nobody", s, nobody, s, 0)
	checkPlay(t, "nobody, often", s, slices.Repeat(nobody, 187), s, 0)
	var among []int
	for n, who := range mixedRow(7, 150) {
		among = append(among, who, nobody[n%len(nobody)])
	}
	want, many := impl.Play(s, mixedRow(7, 150))
	checkPlay(t, "nobody among them", s, among, want, many)
}

// TestAbleOfEachSet: all eight, each by consoles of its own.
func TestAbleOfEachSet(t *testing.T) {
	for _, at := range []int{20, 84, 300} {
		for set := range 8 {
			cpu, picture, sound := set%2 == 1, set/2%2 == 1, set/4 == 1
			var want []int
			for who := range 3 {
				if set>>who%2 == 1 {
					want = append(want, who)
				}
			}
			for kind := range 4 { // behind by a cycle, by all, by a record, by both
				units := func(t int) impl.Split {
					s := splitAt(t)
					back := []int{1, t, 0, 3}[kind]
					list := [][]impl.Rec{nil, nil, recsAt(t), recsAt(t-3, t)}[kind]
					if picture {
						s.Picture = pictureAt(t-back, list...)
					}
					if sound {
						s.Sound = soundAt(t-back, list...)
					}
					return s
				}
				var some []impl.Split
				over := doing(units(20000), "nop", 0)
				switch {
				case cpu:
					some = []impl.Split{doing(units(at), "inx", 0), doing(units(at), "sta", 8192), doing(units(19998), "nop", 0)}
					some = append(some, splitWith(units(at), func(s *impl.Split) { s.Nmi = true }))
				case picture && sound:
					some = []impl.Split{doing(units(at), "lda", 8194), doing(units(at), "lda", 16386), over}
				case picture:
					some = []impl.Split{doing(units(at), "lda", 8194), over}
				case sound:
					some = []impl.Split{doing(units(at), "lda", 16384), over}
					some = append(some, splitWith(units(at), func(s *impl.Split) { s.Cpu.I, s.KnownAt = false, 0 }))
				default:
					some = []impl.Split{over}
				}
				for n, s := range some {
					what := fmt.Sprint("set ", want, " at ", at, ", kind ", kind, ", number ", n)
					checkAble(t, what, s, want)
					for who := range 3 {
						if _, done := checkPick(t, what, s, who); done != slices.Contains(want, who) {
							t.Fatalf("%s: pick %d is %v", what, who, done)
						}
					}
					checkLevel(t, what, s)
				}
			}
		}
	}
	for cap := 1; cap <= 16; cap++ { // a full ring, and one record less
		for many := cap - 1; many <= cap; many++ {
			s := splitBehind(84, 0, 0, cap)
			s.Picture.Ring.List = recsAt(slices.Repeat([]int{84}, many)...)
			checkAble(t, "a full ring", doing(s, "sta", 8193), [][]int{{0}, {0, 1}, {1}}[one(many > 0)+one(many == cap)])
			s = splitBehind(84, 0, 0, cap)
			s.Sound.Ring.List = recsAt(slices.Repeat([]int{84}, many)...)
			checkAble(t, "a full ring", doing(s, "sta", 16385), [][]int{{0}, {0, 2}, {2}}[one(many > 0)+one(many == cap)])
		}
	}
}

func TestAbleOfSome(t *testing.T) {
	for name, s := range someSplits() {
		if impl.SplitOk(s) {
			checkAble(t, name, s, wantAble(s))
			checkLevel(t, name, s)
		} else {
			checkAble(t, name, s, nil)
		}
	}
}

func TestLevelOfUnitsThatAreBehind(t *testing.T) {
	for _, at := range []int{0, 1, 31, 48, 49, 64, 300, 19999, 20000} {
		for _, picture := range []int{0, 1, 48, at} {
			for _, sound := range []int{0, 1, 32, at} {
				if picture > at || sound > at {
					continue
				}
				s := splitBehind(at, picture, sound, 16)
				s.Picture.Ring.List, s.Sound.Ring.List = recsAt(at-picture, at-picture/2, at, at), recsAt(at-sound, at-sound/2, at)
				got := checkLevel(t, fmt.Sprint("behind ", at, " by ", picture, " and ", sound), s)
				if !samePicture(got.Picture, impl.PictureCatch(s.Picture, at)) || !sameSound(got.Sound, impl.SoundCatch(s.Sound, at)) {
					t.Fatalf("not caught up: %s", tellSplit(got))
				}
			}
		}
	}
}

// fairTo is a console at a late time that does an op of so many cycles again and again; its units are behind.
func fairTo(t *testing.T, text string, at int) impl.Split {
	t.Helper()
	s := loopingApart(t, text, 2)
	s.T, s.KnownAt = at, at
	s.Picture, s.Sound = pictureAt(at-70), soundAt(at-90)
	return s
}

func TestFairOfEachCount(t *testing.T) {
	for name, s := range map[string]impl.Split{
		"jmp": loopingApart(t, "jmp 49152\n", 1), "units": loopingApart(t, "lda 8194\nsta 8196\nsta 16385\njmp 49152\n", 1), "behind": splitBehind(300, 200, 100, 4),
	} {
		for _, steps := range []int{math.MinInt, math.MinInt + 1, -3000, -2, -1, 0} {
			checkFair(t, name, s, steps, s, 0)
		}
		walked := s
		for n := 1; n <= 3000; n++ {
			var done bool
			if walked, done = impl.CpuStep(impl.Level(walked)); !done {
				t.Fatalf("%s: no step %d", name, n)
			}
			if n < 4 || n == 100 || n > 2998 {
				checkFair(t, name, s, n, walked, n)
			}
		}
		for _, steps := range []int{3001, 3002, 6000, 20000, 1 << 32, math.MaxInt - 1, math.MaxInt} {
			checkFair(t, name, s, steps, walked, 3000)
		}
		if walked.Picture.Ppu.T >= walked.T || walked.Sound.Apu.T >= walked.T {
			t.Errorf("%s: Level behind the last step: %s", name, tellSplit(walked))
		}
	}
}

// TestFairToTheEnd: a step that would be over is none, and Level it ends; where no step is wanted any more it is not.
func TestFairToTheEnd(t *testing.T) {
	for _, e := range []struct {
		text         string
		at, many, to int
	}{
		{"jmp 49152\n", 19900, 33, 19999}, {"jmp 49152\n", 19997, 1, 20000}, {"jmp 49152\n", 19998, 0, 19998}, {"jmp 49152\n", 20000, 0, 20000},
		{"nop\nnop\njmp 49152\n", 19995, 2, 19999}, {"nop\njmp 49152\n", 19995, 2, 20000}, {"sta 8196\nlda 8194\njmp 49152\n", 19989, 3, 20000},
		{"sta 16385\nlda 16386\njmp 49152\n", 19988, 3, 19999}, {"jsr 49152\n", 19800, 33, 19998},
	} {
		s := fairTo(t, e.text, e.at)
		for _, steps := range []int{e.many - 1, e.many, e.many + 1, e.many + 2, 3000, 3001, math.MaxInt} {
			what := fmt.Sprintf("%q from %d on, %d steps", e.text, e.at, steps)
			want, many := wantFair(s, steps)
			checkFair(t, what, s, steps, want, many)
			got, _ := impl.Fair(s, steps)
			checkWithin(t, what, got)
			switch {
			case many != max(0, min(steps, e.many)):
				t.Fatalf("%s: %d", what, many)
			case steps > e.many && (got.T != e.to || impl.Wait(got) != impl.WtOver || len(impl.Able(got)) > 0 || !sameSplit(got, impl.Level(got))):
				t.Fatalf("%s: not Level at its end: %s", what, tellSplit(got))
			case steps <= e.many && (sameSplit(got, impl.Level(got)) || steps <= 0 && !sameSplit(got, s)):
				t.Fatalf("%s: Level, but no step was wanted: %s", what, tellSplit(got))
			}
		}
	}
}

// TestP16SoManyStepsAreAPartAndThenTheRest, from the beginning on, and over the end.
func TestP16SoManyStepsAreAPartAndThenTheRest(t *testing.T) {
	for seed := range 24 {
		s, steps := newApart(t, seed), 60+seed*5
		switch seed % 4 {
		case 1:
			s, _ = impl.Play(s, mixedRow(seed, 900))
		case 2:
			s = fairTo(t, "sta 8196\nlda 8194\nsta 16386\ncli\njmp 49152\n", 19700+seed)
		}
		whole, many := wantFair(s, steps)
		checkFair(t, fmt.Sprint("seed ", seed), s, steps, whole, many)
		for _, first := range []int{math.MinInt, -1, 0, 1, 13, steps / 2, many - 1, many, many + 1, steps - 1, steps} {
			if first > steps {
				continue
			}
			part, k := impl.Fair(s, first)
			checkWithin(t, fmt.Sprint("seed ", seed, ", a part of ", first), part)
			checkFair(t, fmt.Sprint("seed ", seed, ", the rest from ", first), part, steps-max(first, 0), whole, many-k)
		}
	}
}

// TestFairIsAsInStep: the processor waits for nobody so, and comes to what it comes to in step.
func TestFairIsAsInStep(t *testing.T) {
	for seed := range 10 {
		s := newApart(t, seed)
		l, _ := impl.LockNew(s.Img, s.Pads)
		for {
			next, many := impl.Fair(s, 400)
			run, inStep := impl.LockRun(l, 400)
			if many != inStep {
				t.Fatalf("seed %d: %d steps, in step %d", seed, many, inStep)
			}
			checkAsInStep(t, fmt.Sprint("seed ", seed), next, run)
			checkLock(t, fmt.Sprint("seed ", seed, ", Level"), lockOf(impl.Level(next)), run)
			if s, l = next, run; many < 400 {
				break
			}
		}
		if impl.Wait(s) != impl.WtOver || s.T < 19990 || len(impl.Able(s)) > 0 {
			t.Errorf("seed %d: it ends with %s", seed, tellSplit(s))
		}
	}
}

// TestSomebodyIsAlwaysAble: by whomever of the able is let run, again and again, all come to the end of the time, which is that in step.
func TestSomebodyIsAlwaysAble(t *testing.T) {
	for seed := range 5 {
		s := newApart(t, seed*5)
		l, _ := impl.LockNew(s.Img, s.Pads)
		if seed < 4 { // from near the end on
			l, _ = impl.LockRun(l, []int{2400, 2700, 3000, 2000}[seed])
			s, _ = impl.Fair(s, l.Steps)
		}
		for n := 0; ; n++ {
			able := impl.Able(s)
			if len(able) == 0 {
				break
			}
			who := []int{able[0], able[len(able)-1], able[n%len(able)], able[n/5%len(able)], able[0]}[seed]
			var many int
			if s, many = impl.Play(s, slices.Repeat([]int{who}, 1+n%23)); many == 0 {
				t.Fatalf("seed %d: %d was able, and did nothing: %s", seed, who, tellSplit(s))
			}
		}
		for done := true; done; {
			l, done = impl.LockStep(l)
		}
		if wait := impl.Wait(s); wait != impl.WtOver {
			t.Errorf("seed %d: nobody is able, and it waits for %d", seed, wait)
		}
		checkLock(t, fmt.Sprint("seed ", seed, ": at the end"), lockOf(s), l)
	}
}

func playAnswers() map[string]func(impl.Split) impl.Split {
	answers := map[string]func(impl.Split) impl.Split{
		"Level": impl.Level,
		"Able":  func(s impl.Split) impl.Split { return impl.Split{Pads: impl.Able(s)} },
		"Play of too many": func(s impl.Split) impl.Split {
			got, _ := impl.Play(s, make([]int, 3001))
			return got
		},
	}
	for _, who := range []int{0, 1, 2, 3, math.MinInt} {
		answers[fmt.Sprint("Pick ", who)] = func(s impl.Split) impl.Split { got, _ := impl.Pick(s, who); return got }
	}
	for _, row := range [][]int{{}, {9}, {0, 0, 0, 1, 2, 1}, {1, 1, 2, 2, 0, 0, 0, 2}} {
		answers[fmt.Sprint("Play ", row)] = func(s impl.Split) impl.Split { got, _ := impl.Play(s, row); return got }
	}
	for _, steps := range []int{-1, 0, 1, 12} {
		answers[fmt.Sprint("Fair ", steps)] = func(s impl.Split) impl.Split { got, _ := impl.Fair(s, steps); return got }
	}
	return answers
}

func TestPlayAnswersAreNewMemory(t *testing.T) { checkNewSplits(t, playAnswers()) }

func TestPlayListsThatShareOneRoom(t *testing.T) { checkSharingSplits(t, playAnswers()) }

// TestARowIsNotChanged, nor the room behind it.
func TestARowIsNotChanged(t *testing.T) {
	s := newApart(t, 4)
	for _, many := range []int{0, 1, 50, 3000, 3001} {
		row, clean := roomyMem(mixedRow(6, many), 0)
		impl.Play(s, row.Ram)
		if !slices.Equal(row.Ram, mixedRow(6, many)) || !clean() {
			t.Errorf("a row of %d is changed, or the room behind it", many)
		}
	}
}

// TestPlayAnswersHangOnNoGoroutine: the same console asked again and again, by many at a time, however many run at once.
// Nor do they hang on the order in which picks are gone through, which is another one each time.
func TestPlayAnswersHangOnNoGoroutine(t *testing.T) {
	some := someSplits()
	for n, name := range slices.Sorted(maps.Keys(some)) {
		if n%4 > 0 {
			delete(some, name)
		}
	}
	for seed := range 4 {
		some[fmt.Sprint("seed ", seed)], _ = impl.Play(newApart(t, seed), mixedRow(seed, 300))
	}
	type answer struct {
		s    impl.Split
		many int
		able string
	}
	asks := map[string]func(impl.Split) answer{
		"Pick":  func(s impl.Split) answer { got, done := impl.Pick(s, s.T%3); return answer{got, one(done), ""} },
		"Play":  func(s impl.Split) answer { got, many := impl.Play(s, mixedRow(7, 40)); return answer{got, many, ""} },
		"Able":  func(s impl.Split) answer { return answer{impl.Split{}, 0, fmt.Sprint(impl.Able(s))} },
		"Level": func(s impl.Split) answer { return answer{impl.Level(s), 0, ""} },
		"Fair":  func(s impl.Split) answer { got, many := impl.Fair(s, 9); return answer{got, many, ""} },
	}
	want := map[string]answer{}
	for name, s := range some {
		for what, ask := range asks {
			want[what+name] = ask(copyOfSplit(s))
		}
	}
	for _, procs := range []int{1, 2, 8} {
		before := runtime.GOMAXPROCS(procs)
		var all sync.WaitGroup
		for range 8 {
			all.Go(func() {
				for name, s := range some {
					for what, ask := range asks {
						if got, want := ask(s), want[what+name]; got.many != want.many || got.able != want.able || !sameSplit(got.s, want.s) {
							t.Errorf("%s of %s: another answer: %d, %s, %s", what, name, got.many, got.able, tellSplit(got.s))
						}
					}
				}
			})
		}
		all.Wait()
		runtime.GOMAXPROCS(before)
	}
}
