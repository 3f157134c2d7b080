package tests

import (
	"fmt"
	"maps"
	"math"
	"runtime"
	"slices"
	"strings"
	"sync"
	"testing"

	"loop.example/g00231/impl"
)

// farOff are what is added to a number to have another one, which some shorter kind of number would not tell from it.
var farOff = []int{1, -1, 2, 128, 256, -256, 65536, 1 << 31, 1 << 32, 1<<32 + 1, 1 << 62, math.MinInt, math.MaxInt}

func copyOfObs(o impl.Obs) impl.Obs {
	return impl.Obs{Frames: copyOfLists(o.Frames), Samples: slices.Clone(o.Samples), Reads: slices.Clone(o.Reads)}
}

func obsWith(o impl.Obs, change func(*impl.Obs)) impl.Obs {
	o = copyOfObs(o)
	change(&o)
	return o
}

// wantBegins cuts each list of b to the length of that of a, where there is so much of it.
func wantBegins(a, b impl.Obs) bool {
	if len(a.Frames) > len(b.Frames) || len(a.Samples) > len(b.Samples) || len(a.Reads) > len(b.Reads) {
		return false
	}
	return sameObs(a, impl.Obs{Frames: b.Frames[:len(a.Frames)], Samples: b.Samples[:len(a.Samples)], Reads: b.Reads[:len(a.Reads)]})
}

// checkObs holds two against each other, and each against itself. What begins, and is begun by it, is the same.
func checkObs(t *testing.T, what string, a, b impl.Obs, same, begins, begun bool) {
	t.Helper()
	wasA, wasB := copyOfObs(a), copyOfObs(b)
	if impl.ObsSame(a, b) != same || impl.ObsSame(b, a) != same {
		t.Fatalf("%s: ObsSame is %v and %v, want %v: %v, %v", what, impl.ObsSame(a, b), impl.ObsSame(b, a), same, a, b)
	}
	if got, back := impl.ObsBegins(a, b), impl.ObsBegins(b, a); got != begins || back != begun || same != (got && back) {
		t.Fatalf("%s: ObsBegins is %v and %v, want %v and %v: %v, %v", what, got, back, begins, begun, a, b)
	}
	for _, o := range []impl.Obs{a, b} {
		if !impl.ObsSame(o, o) || !impl.ObsBegins(o, o) || !impl.ObsSame(o, copyOfObs(o)) || !impl.ObsBegins(copyOfObs(o), o) {
			t.Fatalf("%s: not the same as itself: %v", what, o)
		}
	}
	if !sameObs(a, wasA) || !sameObs(b, wasB) {
		t.Fatalf("%s: an argument is turned", what)
	}
}

// checkSeen is checkObs by the tests' own models.
func checkSeen(t *testing.T, what string, a, b impl.Obs) {
	t.Helper()
	checkObs(t, what, a, b, sameObs(a, b), wantBegins(a, b), wantBegins(b, a))
}

// checkLater is P17: what was seen is the beginning of what is seen later, and the same just if no more is.
func checkLater(t *testing.T, what string, was, later impl.Obs) {
	t.Helper()
	more := len(later.Frames) != len(was.Frames) || len(later.Samples) != len(was.Samples) || len(later.Reads) != len(was.Reads)
	if !impl.ObsBegins(was, later) || impl.ObsBegins(later, was) == more || impl.ObsSame(was, later) == more || !wantBegins(was, later) {
		t.Fatalf("%s: what was seen is not the beginning of what is: %d, %v, %v, then %d, %v, %v", what,
			len(was.Frames), was.Samples, was.Reads, len(later.Frames), later.Samples, later.Reads)
	}
}

func checkObsOf(t *testing.T, what string, s impl.Split) {
	t.Helper()
	was := copyOfSplit(s)
	if got := impl.ObsOf(s); !sameObs(got, lockOf(was).Obs) || !impl.ObsSame(got, lockOf(was).Obs) {
		t.Fatalf("%s: ObsOf is %v, of %s", what, got, tellSplit(s))
	}
	checkSplit(t, what+": the argument of ObsOf", s, was)
}

func checkLockSame(t *testing.T, what string, a, b impl.Lock, want bool) {
	t.Helper()
	wasA, wasB := copyOfLock(a), copyOfLock(b)
	if got, back := impl.LockSame(a, b), impl.LockSame(b, a); got != want || back != want {
		t.Fatalf("%s: LockSame is %v and %v, want %v, of\n%s,\n%s", what, got, back, want, tellLock(a), tellLock(b))
	}
	if !impl.LockSame(a, a) || !impl.LockSame(b, wasB) {
		t.Fatalf("%s: not the same as itself", what)
	}
	checkLock(t, what+": the first argument of LockSame", a, wasA)
	checkLock(t, what+": the other argument of LockSame", b, wasB)
}

func checkAsLock(t *testing.T, what string, s impl.Split, want impl.Lock) {
	t.Helper()
	was := copyOfSplit(s)
	got := impl.AsLock(s)
	checkLock(t, what+": AsLock", got, want)
	checkSplit(t, what+": the argument of AsLock", s, was)
	if !impl.LockSame(got, want) {
		t.Fatalf("%s: not the same: %s", what, tellLock(got))
	}
}

// wantAsLock is for a right console.
func wantAsLock(s impl.Split) impl.Lock {
	if isThere(s, s.Picture.Ppu.T, s.Picture.Ring) && isThere(s, s.Sound.Apu.T, s.Sound.Ring) {
		return copyOfLock(lockOf(s))
	}
	return impl.Lock{}
}

// changes are ways in which a list is another one, by the places and the ends of it. Of each is said whether the list
// as it was begins it, and whether it begins that.
func changes(list []int) map[string]struct {
	list          []int
	begins, begun bool
} {
	type change = struct {
		list          []int
		begins, begun bool
	}
	many := len(list)
	all := map[string]change{
		"longer by one":          {append(slices.Clone(list), 0), true, false},
		"longer by its own last": {append(slices.Clone(list), list[many-1]), true, false},
		"longer ahead":           {append([]int{list[many-1] + 1}, list...), false, false},
		"shorter by one":         {slices.Clone(list[:many-1]), false, true},
		"shorter ahead":          {slices.Clone(list[1:]), false, false},
		"of one":                 {slices.Clone(list[:1]), false, true},
		"empty":                  {[]int{}, false, true},
		"nil":                    {nil, false, true},
		"twice as long":          {append(slices.Clone(list), list...), true, false},
	}
	for _, at := range []int{0, 1, many / 2, many - 2, many - 1} {
		for _, off := range farOff {
			other := slices.Clone(list)
			other[at] += off
			all[fmt.Sprint("another by ", off, " at ", at, " of ", many)] = change{other, false, false}
		}
	}
	longer := append(slices.Clone(list), 9, 9)
	longer[many-1]--
	all["longer, and another at the last place"] = change{longer, false, false}
	shorter := slices.Clone(list[:many-1])
	shorter[many-2]--
	all["shorter, and another at the last place"] = change{shorter, false, false}
	turned := slices.Clone(list)
	turned[0], turned[many-1] = turned[many-1], turned[0]
	all["first and last turned"] = change{turned, false, false}
	return all
}

// someObs has no two numbers alike.
func someObs() impl.Obs {
	o := impl.Obs{Samples: []int{0, 8, -8, 80, 5}, Reads: []int{128, 1, 129, 0, 7, 64}}
	for n := range 4 {
		picture := make([]int, 48)
		for at := range picture {
			picture[at] = 1000*n + at
		}
		o.Frames = append(o.Frames, picture)
	}
	return o
}

func TestObsByHand(t *testing.T) {
	none := impl.Obs{}
	a := impl.Obs{Frames: [][]int{{1, 2}}, Samples: []int{8}}
	b := impl.Obs{Frames: [][]int{{1, 2}, {3}}, Samples: []int{8, 0}, Reads: []int{4}}
	for n, e := range []struct {
		a, b                impl.Obs
		same, begins, begun bool
	}{
		{none, none, true, true, true}, {none, a, false, true, false}, {a, a, true, true, true}, {a, b, false, true, false},
		{none, impl.Obs{Frames: [][]int{}, Samples: []int{}, Reads: []int{}}, true, true, true},
		{none, impl.Obs{Samples: []int{0}}, false, true, false}, {none, impl.Obs{Reads: []int{0}}, false, true, false},
		{none, impl.Obs{Frames: [][]int{nil}}, false, true, false}, // a picture of no dots is one
		{impl.Obs{Frames: [][]int{nil}}, impl.Obs{Frames: [][]int{{}}}, true, true, true},
		{impl.Obs{Frames: [][]int{nil}}, impl.Obs{Frames: [][]int{{0}}}, false, false, false}, // of a picture the beginning is not enough
		{impl.Obs{Frames: [][]int{{1}, {2}}}, impl.Obs{Frames: [][]int{{1, 2}}}, false, false, false},
		{impl.Obs{Frames: [][]int{{1, 2}}}, impl.Obs{Frames: [][]int{{1, 2}, {}}}, false, true, false},
		{impl.Obs{Samples: []int{1}}, impl.Obs{Reads: []int{1}}, false, false, false},
		{impl.Obs{Samples: []int{1}, Reads: []int{2}}, impl.Obs{Samples: []int{2}, Reads: []int{1}}, false, false, false},
		{impl.Obs{Samples: []int{1, 2}, Reads: []int{3}}, impl.Obs{Samples: []int{1}, Reads: []int{3, 4}}, false, false, false}, // each is longer somewhere
		{impl.Obs{Samples: []int{1}, Reads: []int{3}}, impl.Obs{Samples: []int{1, 2}, Reads: []int{4, 3}}, false, false, false},
	} {
		checkObs(t, fmt.Sprint("by hand ", n), e.a, e.b, e.same, e.begins, e.begun)
	}
}

// TestObsOfEachChange: Samples, Reads and one picture of Frames, each by itself changed in each way.
func TestObsOfEachChange(t *testing.T) {
	start := someObs()
	checkObs(t, "alike", start, someObs(), true, true, true)
	for name, c := range changes(start.Samples) {
		checkObs(t, "samples "+name, start, obsWith(start, func(o *impl.Obs) { o.Samples = c.list }), false, c.begins, c.begun)
	}
	for name, c := range changes(start.Reads) {
		checkObs(t, "reads "+name, start, obsWith(start, func(o *impl.Obs) { o.Reads = c.list }), false, c.begins, c.begun)
	}
	for at := range start.Frames {
		for name, c := range changes(start.Frames[at]) { // a picture that is longer or shorter is another one
			what := fmt.Sprint("picture ", at, " ", name)
			checkObs(t, what, start, obsWith(start, func(o *impl.Obs) { o.Frames[at] = c.list }), false, false, false)
			checkObs(t, what+", and fewer pictures", start, obsWith(start, func(o *impl.Obs) {
				o.Frames[at] = c.list
				o.Frames = o.Frames[:at+1]
			}), false, false, false)
			checkObs(t, what+", and more pictures", start, obsWith(start, func(o *impl.Obs) {
				o.Frames[at] = c.list
				o.Frames = append(o.Frames, []int{1})
			}), false, false, false)
			checkObs(t, what+", ahead of which the others end", obsWith(start, func(o *impl.Obs) { o.Frames = o.Frames[:at] }),
				obsWith(start, func(o *impl.Obs) { o.Frames[at] = c.list }), false, true, false)
		}
	}
	for n, picture := range start.Frames {
		for at := range picture {
			checkObs(t, fmt.Sprint("dot ", at, " of ", n), start, obsWith(start, func(o *impl.Obs) { o.Frames[n][at]++ }), false, false, false)
		}
	}
}

// TestObsOfMoreAndFewerPictures: whole pictures at the ends, and two that are turned.
func TestObsOfMoreAndFewerPictures(t *testing.T) {
	start := someObs()
	for name, e := range map[string]struct {
		frames        [][]int
		begins, begun bool
	}{
		"one more":             {append(copyOfLists(start.Frames), []int{5}), true, false},
		"one more, of no dots": {append(copyOfLists(start.Frames), nil), true, false},
		"the last once more":   {append(copyOfLists(start.Frames), start.Frames[3]), true, false},
		"one more ahead":       {append([][]int{{5}}, start.Frames...), false, false},
		"the last one less":    {start.Frames[:3], false, true},
		"the first one less":   {start.Frames[1:], false, false},
		"just the first":       {start.Frames[:1], false, true},
		"none":                 {[][]int{}, false, true},
		"nil":                  {nil, false, true},
		"two turned":           {[][]int{start.Frames[0], start.Frames[2], start.Frames[1], start.Frames[3]}, false, false},
		"all in one":           {[][]int{slices.Concat(start.Frames...)}, false, false},
	} {
		checkObs(t, name, start, obsWith(start, func(o *impl.Obs) { o.Frames = copyOfLists(e.frames) }), false, e.begins, e.begun)
	}
}

// TestObsLongerHereShorterThere: of each list by itself whether it is longer, shorter or as long; all must begin for all to begin.
func TestObsLongerHereShorterThere(t *testing.T) {
	start := someObs()
	for kind := range 27 {
		other, lens := copyOfObs(start), []int{kind%3 - 1, kind/3%3 - 1, kind/9 - 1}
		other.Frames = append(other.Frames, []int{3})[:4+lens[0]]
		other.Samples = append(other.Samples, 3)[:5+lens[1]]
		other.Reads = append(other.Reads, 3)[:6+lens[2]]
		checkObs(t, fmt.Sprint("longer by ", lens), start, other, kind == 13, slices.Min(lens) >= 0, slices.Max(lens) <= 0)
	}
}

// TestObsOfAllPairs of small ones: nil against empty, short against long, each against each.
func TestObsOfAllPairs(t *testing.T) {
	lists := [][]int{nil, {}, {0}, {1}, {0, 0}, {0, 1}, {1, 0}, {0, 1, 0}}
	pictures := [][][]int{nil, {}, {nil}, {{}}, {{0}}, {{0}, nil}, {{0}, {0}}, {{0, 0}}, {{1}, {0}}, {nil, nil}, {{0}, {0}, {1}}}
	var all []impl.Obs
	for n, frames := range pictures {
		for m, samples := range lists {
			all = append(all, impl.Obs{Frames: frames, Samples: samples, Reads: lists[(n+m)%len(lists)]}, impl.Obs{Frames: frames, Samples: lists[n%3], Reads: samples})
		}
	}
	same, begins := 0, 0
	for _, a := range all {
		for _, b := range all {
			checkSeen(t, "pairs", a, b)
			same, begins = same+one(impl.ObsSame(a, b)), begins+one(impl.ObsBegins(a, b))
		}
	}
	if same < len(all) || begins < 2*same {
		t.Errorf("of %d only %d are the same, %d begin", len(all), same, begins)
	}
}

// TestObsBeginsIsHandedOn: what begins one that begins a third begins that.
func TestObsBeginsIsHandedOn(t *testing.T) {
	start := someObs()
	cut := func(f, s, r int) impl.Obs {
		return copyOfObs(impl.Obs{Frames: start.Frames[:f], Samples: start.Samples[:s], Reads: start.Reads[:r]})
	}
	for f := range 5 {
		for s := range 6 {
			for r := range 7 {
				a, b := cut(f/2, s/2, r/2), cut(f, s, r)
				checkSeen(t, "a half", a, b)
				if !impl.ObsBegins(a, b) || !impl.ObsBegins(b, start) || !impl.ObsBegins(a, start) {
					t.Fatalf("%d pictures, %d samples, %d reads do not begin it", f, s, r)
				}
			}
		}
	}
}

// TestObsOfTheLeastAndTheGreatestInt, against each other and against what is near.
func TestObsOfTheLeastAndTheGreatestInt(t *testing.T) {
	numbers := []int{math.MinInt, math.MinInt + 1, -1 << 32, -1 << 31, -1, 0, 1, 255, 1 << 31, 1 << 32, math.MaxInt - 1, math.MaxInt}
	for _, v := range numbers {
		for _, w := range numbers {
			for kind := range 3 {
				of := func(v int) impl.Obs {
					return []impl.Obs{{Frames: [][]int{{v}}}, {Samples: []int{v}}, {Reads: []int{v}}}[kind]
				}
				checkObs(t, fmt.Sprint(v, " against ", w), of(v), of(w), v == w, v == w, v == w)
			}
		}
	}
}

func TestObsOfConsoles(t *testing.T) {
	for name, s := range someSplits() {
		checkObsOf(t, name, s)
	}
	for name, s := range wrongSplits() {
		checkSplitOk(t, name, s, false)
		checkObsOf(t, name, s)
	}
	lists := [][]int{nil, {}, {0}, {math.MinInt, math.MaxInt, -1}, make([]int, 3000)}
	pictures := [][][]int{nil, {}, {nil}, {{}}, {{}, nil, {7}}, {{1, 2}, {3}}, {make([]int, 100), {math.MinInt, math.MaxInt}}}
	for _, start := range []impl.Split{{}, splitAt(0), splitAt(84), splitBehind(300, 200, 100, 4)} {
		for n, frames := range pictures {
			for m, samples := range lists {
				s := splitWith(start, func(s *impl.Split) { s.Reads = lists[(n+m)%len(lists)] })
				s.Picture.Frames, s.Sound.Samples = frames, samples
				checkObsOf(t, fmt.Sprint("lists ", n, " and ", m), s)
			}
		}
	}
	s := splitAt(84)
	got := impl.ObsOf(s)
	if len(got.Frames) != 1 || got.Frames[0][0] != 1048 || !slices.Equal(got.Samples, []int{-15, -31, -47, -63, -79}) || !slices.Equal(got.Reads, []int{7, -5, math.MaxInt}) {
		t.Errorf("by hand: %v", got)
	}
	if got := impl.ObsOf(impl.Split{}); len(got.Frames)+len(got.Samples)+len(got.Reads) > 0 {
		t.Errorf("of zero: %v", got)
	}
}

// numbersOfLock are all numbers that a console in step has by themselves.
func numbersOfLock(l *impl.Lock) map[string]*int {
	return map[string]*int{
		"Bank": &l.Mem.Bank, "A": &l.Cpu.A, "X": &l.Cpu.X, "S": &l.Cpu.S, "Pc": &l.Cpu.Pc,
		"T": &l.Ppu.T, "Ctrl": &l.Ppu.Ctrl, "Scroll": &l.Ppu.Scroll, "Addr": &l.Ppu.Addr, "Pal": &l.Ppu.Pal,
		"sound T": &l.Apu.T, "Period": &l.Apu.Period, "Count": &l.Apu.Count, "Bit": &l.Apu.Bit, "Length": &l.Apu.Length,
		"Shift": &l.Pad.Shift, "Steps": &l.Steps,
	}
}

func flagsOfLock(l *impl.Lock) map[string]*bool {
	return map[string]*bool{
		"Z": &l.Cpu.Z, "N": &l.Cpu.N, "C": &l.Cpu.C, "I": &l.Cpu.I, "Blank": &l.Ppu.Blank,
		"Asks": &l.Apu.Asks, "Irq": &l.Apu.Irq, "Held": &l.Pad.Held, "Nmi": &l.Nmi,
	}
}

// rowsOfLock are all lists of numbers that LockSame is to hold against each other.
func rowsOfLock(l *impl.Lock) map[string]*[]int {
	rows := map[string]*[]int{"Ram": &l.Mem.Ram, "Table": &l.Ppu.Table, "Dots": &l.Ppu.Dots, "Samples": &l.Obs.Samples, "Reads": &l.Obs.Reads}
	for n := range l.Obs.Frames {
		rows[fmt.Sprint("picture ", n)] = &l.Obs.Frames[n]
	}
	return rows
}

func TestLockSameOfEachNumberAndFlag(t *testing.T) {
	for name, start := range map[string]impl.Lock{"zero": {}, "new": looping(t, "nop\n"), "at 150": lockAt(150)} {
		checkLockSame(t, name, start, copyOfLock(start), true)
		for field := range numbersOfLock(&start) {
			for _, off := range farOff {
				checkLockSame(t, fmt.Sprint(name, ", ", field, " by ", off), start, lockWith(start, func(l *impl.Lock) { *numbersOfLock(l)[field] += off }), false)
			}
			for _, v := range []int{math.MinInt, math.MinInt + 1, math.MaxInt - 1, math.MaxInt} {
				other := lockWith(start, func(l *impl.Lock) { *numbersOfLock(l)[field] = v })
				checkLockSame(t, fmt.Sprint(name, ", ", field, " ", v), start, other, false)
				checkLockSame(t, fmt.Sprint(name, ", both with ", field, " ", v), other, copyOfLock(other), true)
			}
		}
		for field := range flagsOfLock(&start) {
			checkLockSame(t, name+", "+field, start, lockWith(start, func(l *impl.Lock) { *flagsOfLock(l)[field] = !*flagsOfLock(l)[field] }), false)
		}
	}
}

// TestLockSameOfNumbersThatAreTurned: the sum of them is the same, but each stands where another one stood.
func TestLockSameOfNumbersThatAreTurned(t *testing.T) {
	start := lockAt(150)
	all := slices.Sorted(maps.Keys(numbersOfLock(&start)))
	for _, one := range all {
		for _, other := range all {
			was, with := *numbersOfLock(&start)[one], *numbersOfLock(&start)[other]
			checkLockSame(t, one+" for "+other, start, lockWith(start, func(l *impl.Lock) {
				*numbersOfLock(l)[one], *numbersOfLock(l)[other] = with, was
			}), was == with)
		}
	}
}

func TestLockSameOfEachList(t *testing.T) {
	start := lockAt(150)
	start.Obs.Frames = someObs().Frames[:2] // no two dots alike
	for field, row := range rowsOfLock(&start) {
		for name, c := range changes(*row) {
			checkLockSame(t, field+" "+name, start, lockWith(start, func(l *impl.Lock) { *rowsOfLock(l)[field] = c.list }), false)
		}
		for at := range *row {
			checkLockSame(t, fmt.Sprint(field, " at ", at), start, lockWith(start, func(l *impl.Lock) { (*rowsOfLock(l)[field])[at]++ }), false)
		}
		bare := lockWith(start, func(l *impl.Lock) { *rowsOfLock(l)[field] = nil })
		checkLockSame(t, field+" nil against empty", bare, lockWith(start, func(l *impl.Lock) { *rowsOfLock(l)[field] = []int{} }), true)
		checkLockSame(t, field+" nil against one", bare, lockWith(start, func(l *impl.Lock) { *rowsOfLock(l)[field] = []int{0} }), false)
	}
	for name, frames := range map[string][][]int{
		"one more": append(copyOfLists(start.Obs.Frames), make([]int, 48)), "one less": start.Obs.Frames[:1], "none": {}, "nil": nil,
		"one of no dots more": append(copyOfLists(start.Obs.Frames), nil), "turned": {start.Obs.Frames[1], start.Obs.Frames[0]},
	} {
		checkLockSame(t, "pictures: "+name, start, lockWith(start, func(l *impl.Lock) { l.Obs.Frames = copyOfLists(frames) }), false)
	}
	empty := impl.Lock{
		Pads: []int{}, Mem: impl.Mem{Ram: []int{}}, Ppu: impl.Ppu{Table: []int{}, Dots: []int{}}, Img: impl.Image{Banks: [][]int{}},
		Obs: impl.Obs{Frames: [][]int{}, Samples: []int{}, Reads: []int{}},
	}
	checkLockSame(t, "zero against empty", impl.Lock{}, empty, true)
}

// TestLockSameWithoutImgAndPads: whatever both are, they are not asked for; but they do not make other things the same.
func TestLockSameWithoutImgAndPads(t *testing.T) {
	for _, at := range []int{0, 84, 150, 19999} {
		start := lockAt(at)
		for name, change := range map[string]func(*impl.Lock){
			"another image": func(l *impl.Lock) { l.Img = imageOf(5) }, "no image": func(l *impl.Lock) { l.Img = impl.Image{} },
			"an empty image": func(l *impl.Lock) { l.Img.Banks = [][]int{} }, "a bank of one": func(l *impl.Lock) { l.Img.Banks[1] = []int{math.MinInt} },
			"a byte of the image": func(l *impl.Lock) { l.Img.Banks[0][0]++ }, "no byte": func(l *impl.Lock) { l.Img.Banks[2][255] = math.MaxInt },
			"other pads": func(l *impl.Lock) { l.Pads = padsOf(7) }, "no pads": func(l *impl.Lock) { l.Pads = nil }, "empty pads": func(l *impl.Lock) { l.Pads = []int{} },
			"one pad": func(l *impl.Lock) { l.Pads[2]++ }, "wrong pads": func(l *impl.Lock) { l.Pads = []int{math.MinInt, math.MaxInt} },
			"both": func(l *impl.Lock) { l.Img, l.Pads = imageOf(1), padsOf(20) },
		} {
			other := lockWith(start, change)
			checkLockSame(t, name, start, other, true)
			checkLockSame(t, name+", and a step more", start, lockWith(other, func(l *impl.Lock) { l.Steps++ }), false)
			checkLockSame(t, name+", and a read more", start, lockWith(other, func(l *impl.Lock) { l.Obs.Reads = append(l.Obs.Reads, 0) }), false)
		}
	}
}

// TestLockSameOfWhatIsNotRight: it is held against another as it is.
func TestLockSameOfWhatIsNotRight(t *testing.T) {
	wrong := wrongLocks()
	wrong["right"] = lockAt(84)
	noParts := func(l impl.Lock) impl.Lock {
		l.Img, l.Pads = impl.Image{}, nil
		return l
	}
	same := 0
	names := slices.Sorted(maps.Keys(wrong))
	for n, name := range names {
		checkLockSame(t, name, wrong[name], copyOfLock(wrong[name]), true)
		for m := n % 7; m < len(names); m += 7 {
			want := sameLock(noParts(wrong[name]), noParts(wrong[names[m]]))
			checkLockSame(t, name+" against "+names[m], wrong[name], wrong[names[m]], want)
			same += one(want && n != m)
		}
	}
	if same == 0 {
		t.Error("no two are the same")
	}
}

// TestAsLockOfWhatIsLevel: its parts, and what was seen; whatever the processor had to know, it leaves out.
func TestAsLockOfWhatIsLevel(t *testing.T) {
	for _, at := range []int{0, 1, 15, 16, 47, 48, 49, 63, 64, 84, 300, 19999, 20000} {
		for kind := range 32 {
			s := splitWith(splitAt(at), func(s *impl.Split) {
				s.Nmi, s.Known, s.Pad.Held, s.Cpu.I, s.Sound.Apu.Irq = kind%2 == 0, kind/2%2 == 0, kind/4%2 == 0, kind/8%2 == 0, kind/16 == 0
				s.KnownAt, s.Ctrl, s.Steps, s.Picture.Ring.Cap, s.Sound.Ring.Cap = at*(kind%3)/2, kind*8, at*(kind%4)/3, 1+kind%16, 16-kind%16
			})
			what := fmt.Sprint("at ", at, ", kind ", kind)
			checkSplitOk(t, what, s, true)
			checkAsLock(t, what, s, copyOfLock(lockOf(s)))
			if got := impl.AsLock(s); !impl.LockOk(got) || !impl.ObsSame(got.Obs, impl.ObsOf(s)) || got.Ppu.T != at || got.Apu.T != at || got.Steps != s.Steps {
				t.Fatalf("%s: not such a console: %s", what, tellLock(got))
			}
		}
		for _, lists := range [][]int{nil, {}} {
			s := splitWith(splitAt(at), func(s *impl.Split) { s.Pads, s.Reads = lists, lists })
			checkAsLock(t, "no pads and no reads", s, copyOfLock(lockOf(s)))
		}
	}
	fresh, _ := impl.SplitNew(imageOf(2), padsOf(4), 1)
	want, _ := impl.LockNew(imageOf(2), padsOf(4))
	checkAsLock(t, "new", fresh, want)
}

// TestAsLockOfWhatIsNotCaughtUp: by its time, and by a record, of one unit, of the other and of both.
func TestAsLockOfWhatIsNotCaughtUp(t *testing.T) {
	for _, at := range []int{1, 2, 16, 48, 49, 64, 84, 300, 19999, 20000} {
		for _, picture := range []int{0, 1, at / 2, at} {
			for _, sound := range []int{0, 1, at / 2, at} {
				for kind := range 4 { // no record, one of the very time for one unit, for the other, for both
					s := splitBehind(at, picture, sound, 1+kind%2)
					s.Picture.Ring.List, s.Sound.Ring.List = recsAt(at)[:kind%2], recsAt(at)[:kind/2]
					want := impl.Lock{}
					if picture+sound+kind == 0 {
						want = copyOfLock(lockOf(s))
					}
					what := fmt.Sprint("at ", at, ", behind by ", picture, " and ", sound, ", records ", kind)
					checkSplitOk(t, what, s, true)
					checkAsLock(t, what, s, want)
					level := impl.Level(s)
					checkAsLock(t, what+", Level", level, copyOfLock(lockOf(level)))
				}
			}
		}
	}
	for cap := 1; cap <= 16; cap++ { // rings that are full, or nearly so
		for many := range cap + 1 {
			s := splitBehind(84, 0, 0, cap)
			s.Picture.Ring.List = recsAt(slices.Repeat([]int{84}, many)...)
			checkAsLock(t, fmt.Sprint(many, " records for the picture unit"), s, wantAsLock(s))
			s.Picture.Ring.List, s.Sound.Ring.List = []impl.Rec{}, s.Picture.Ring.List
			checkAsLock(t, fmt.Sprint(many, " records for the sound unit"), s, wantAsLock(s))
		}
	}
	for name, s := range someSplits() {
		if impl.SplitOk(s) {
			checkAsLock(t, name, s, wantAsLock(s))
		}
	}
}

// TestAsLockOfWhatIsNotRight: zero, also of those whose units are caught up.
func TestAsLockOfWhatIsNotRight(t *testing.T) {
	there := 0
	for name, s := range wrongSplits() {
		there += one(s.Picture.Ppu.T == s.T && s.Sound.Apu.T == s.T && len(s.Picture.Ring.List)+len(s.Sound.Ring.List) == 0)
		checkAsLock(t, name, s, impl.Lock{})
	}
	if there < 50 {
		t.Errorf("only %d were caught up", there)
	}
}

// TestSeenWithTheLeastAndTheGreatestInt, in every number of a console by itself, and in all at once.
func TestSeenWithTheLeastAndTheGreatestInt(t *testing.T) {
	start := func() impl.Split {
		s := splitAt(84)
		s.Picture, s.Sound = pictureAt(84, recsAt(84)...), soundAt(84, recsAt(84)...)
		return s
	}
	right, level := start(), splitAt(84)
	for _, v := range []int{math.MinInt, math.MinInt + 1, math.MaxInt - 1, math.MaxInt} {
		all := start()
		for name := range numbersOfSplit(&right) {
			s := start()
			*numbersOfSplit(&s)[name] = v
			*numbersOfSplit(&all)[name] = v
			if checkObsOf(t, name, s); !strings.Contains(name, "record") {
				s.Picture.Ring.List, s.Sound.Ring.List = nil, nil
			}
			checkAsLock(t, fmt.Sprint(name, " ", v), s, impl.Lock{})
		}
		checkObsOf(t, fmt.Sprint("all ", v), all)
		checkAsLock(t, fmt.Sprint("all ", v), all, impl.Lock{})
		free := splitWith(level, func(s *impl.Split) { s.Reads[0], s.Picture.Frames[0][5], s.Sound.Samples[1] = v, v, v })
		checkObsOf(t, "what was read, seen and heard", free)
		checkAsLock(t, "what was read, seen and heard", free, copyOfLock(lockOf(free)))
		checkLockSame(t, "what was read, seen and heard", impl.AsLock(free), impl.AsLock(level), false)
	}
}

// TestP17ARunIsAPartOfItAndThenTheRest, in step, from the beginning on, from later, and over the end.
func TestP17ARunIsAPartOfItAndThenTheRest(t *testing.T) {
	for seed := range 24 {
		l, _ := impl.LockNew(programOf(seed), padsOf(seed%21))
		steps := 100 + seed*9
		switch seed % 4 {
		case 1:
			l, _ = impl.LockRun(l, 700)
		case 3:
			for range 2 {
				l, _ = impl.LockRun(l, 3000)
			}
			steps = 3000
		}
		whole, many := impl.LockRun(l, steps)
		if seed%4 < 3 && many != steps {
			t.Fatalf("seed %d: %d steps", seed, many)
		}
		checkLater(t, fmt.Sprint("seed ", seed), l.Obs, whole.Obs)
		checkLockSame(t, "no step, or other ones", l, whole, many == 0)
		for _, first := range []int{math.MinInt, -1, 0, 1, 13, many / 2, many - 1, many, many + 1, steps} {
			if first > steps {
				continue
			}
			part, k := impl.LockRun(l, first)
			rest, more := impl.LockRun(part, steps-max(first, 0))
			what := fmt.Sprint("seed ", seed, ", ", first, " steps of ", steps)
			if k+more != many {
				t.Fatalf("%s: %d and %d, want %d", what, k, more, many)
			}
			checkLockSame(t, what, rest, whole, true)
			checkLockSame(t, what+", a part", part, whole, k == many)
			checkLater(t, what+", a part", part.Obs, whole.Obs)
			checkLater(t, what+", ahead of it", l.Obs, part.Obs)
		}
	}
}

// TestP17StepByStep, in step: each step sees what was seen ahead of it, and no step is the one ahead.
func TestP17StepByStep(t *testing.T) {
	pictures, samples, reads := 0, 0, 0
	for seed := range 12 {
		l, _ := impl.LockNew(programOf(seed), padsOf(seed))
		if seed == 11 {
			l = lockAt(19000)
		}
		first, start, done := l.Obs, l, true
		for n := 0; done && n < 500; n++ {
			was := l
			l, done = impl.LockStep(l)
			what := fmt.Sprint("seed ", seed, ", step ", n)
			checkLater(t, what, was.Obs, l.Obs)
			checkLockSame(t, what, was, l, !done)
			if n%29 == 0 {
				checkLater(t, what+", from the first on", first, l.Obs)
				run, _ := impl.LockRun(start, l.Steps-start.Steps)
				checkLockSame(t, what+", at once", run, l, true)
			}
		}
		pictures, samples, reads = pictures+len(l.Obs.Frames), samples+len(l.Obs.Samples), reads+len(l.Obs.Reads)
	}
	if pictures < 200 || samples < 800 || reads < 300 {
		t.Errorf("only %d pictures, %d samples, %d reads", pictures, samples, reads)
	}
}

// TestP17PickByPick, apart: with rings of each size, whoever is let run, what was seen is the beginning of what is seen later,
// and of what is seen by the console in step that has come as far.
func TestP17PickByPick(t *testing.T) {
	more, level := 0, 0
	for seed := range 48 {
		s := newApart(t, seed)
		twin, _ := impl.LockNew(s.Img, s.Pads)
		seen := []impl.Obs{impl.ObsOf(s)}
		for n, who := range mixedRow(seed, 2500) {
			was := seen[len(seen)-1]
			s, _ = impl.Pick(s, who)
			now := impl.ObsOf(s)
			what := fmt.Sprint("seed ", seed, ", pick number ", n)
			checkLater(t, what, was, now)
			more += one(!impl.ObsSame(was, now))
			if seen = append(seen, now); n%100 > 0 {
				continue
			}
			for m := 0; m < n; m += 211 {
				checkLater(t, fmt.Sprint(what, ", from ", m, " on"), seen[m], now)
			}
			twin, _ = impl.LockRun(twin, s.Steps-twin.Steps)
			checkLater(t, what+", in step", now, twin.Obs)
			checkAsLock(t, what, s, wantAsLock(s))
			lev := impl.Level(s)
			checkLater(t, what+", Level", now, impl.ObsOf(lev))
			checkAsLock(t, what+", Level", lev, twin)
			level += one(sameSplit(s, lev))
		}
	}
	if more < 1000 || level < 20 {
		t.Errorf("more was seen only %d times, Level it was %d times", more, level)
	}
}

// TestP17RowByRow: the same by whole rows of picks, and by Fair.
func TestP17RowByRow(t *testing.T) {
	for seed := range 32 {
		s := newApart(t, seed)
		seen := []impl.Obs{impl.ObsOf(s)}
		for n := range 12 {
			if n%4 == 3 {
				s, _ = impl.Fair(s, 10+seed)
			} else {
				s, _ = impl.Play(s, mixedRow(seed+n*7, 300))
			}
			now := impl.ObsOf(s)
			for m, was := range seen {
				checkLater(t, fmt.Sprint("seed ", seed, ", row ", n, ", from ", m, " on"), was, now)
			}
			seen = append(seen, now)
		}
		if last := seen[len(seen)-1]; len(last.Frames) == 0 && len(last.Samples) == 0 {
			t.Errorf("seed %d: nothing was seen", seed)
		}
	}
}

// TestP17WithRingsOfEachSize: as many steps of Fair see the same, Level, whatever the rings are; it is the console in step.
func TestP17WithRingsOfEachSize(t *testing.T) {
	for seed := range 16 {
		m, pads := programOf(seed), padsOf(seed%21)
		l, _ := impl.LockNew(m, pads)
		small, _ := impl.SplitNew(m, pads, 1)
		great, _ := impl.SplitNew(m, pads, 16)
		other, _ := impl.SplitNew(m, pads, 2+seed%14)
		for _, steps := range []int{0, 1, 2, 3, 17, 100, 333, 3000, 3000, 3000} {
			var many [4]int
			l, many[0] = impl.LockRun(l, steps)
			small, many[1] = impl.Fair(small, steps)
			great, many[2] = impl.Fair(great, steps)
			other, many[3] = impl.Fair(other, steps)
			what := fmt.Sprint("seed ", seed, ", ", steps, " steps more")
			if many != [4]int{many[0], many[0], many[0], many[0]} {
				t.Fatalf("%s: %v", what, many)
			}
			for n, s := range []impl.Split{small, great, other} {
				level := impl.Level(s)
				if !impl.ObsSame(impl.ObsOf(level), impl.ObsOf(impl.Level(small))) || !impl.ObsSame(impl.ObsOf(level), l.Obs) {
					t.Fatalf("%s: another thing is seen with rings number %d", what, n)
				}
				checkLockSame(t, what, impl.AsLock(level), l, true)
				checkAsLock(t, what+", as it is", s, wantAsLock(s))
				checkLater(t, what+", as it is", impl.ObsOf(s), l.Obs)
			}
			checkLockSame(t, what+", small against great", impl.AsLock(impl.Level(small)), impl.AsLock(impl.Level(great)), true)
		}
		if l.Ppu.T < 19990 {
			t.Errorf("seed %d: it ends at %d", seed, l.Ppu.T)
		}
	}
}

// TestP17TellsConsolesApart: another program, or other pads, is seen to be another one, once it has told so.
func TestP17TellsConsolesApart(t *testing.T) {
	one, _ := impl.SplitNew(looping(t, "ldi 3\nsta 8193\nsta 8197\njmp 49152\n").Img, nil, 4)
	other, _ := impl.SplitNew(looping(t, "ldi 2\nsta 8193\nsta 8197\njmp 49152\n").Img, nil, 4)
	for _, e := range []struct {
		steps int
		same  bool
	}{{0, true}, {13, true}, {14, true}, {15, false}, {40, false}} { // the picture is told at 48: in the step from 47 on
		a, _ := impl.Fair(one, e.steps)
		b, _ := impl.Fair(other, e.steps)
		a, b = impl.Level(a), impl.Level(b)
		if got := impl.ObsSame(impl.ObsOf(a), impl.ObsOf(b)); got != e.same {
			t.Errorf("%d steps, to %d: ObsSame is %v", e.steps, a.T, got)
		}
		checkLockSame(t, fmt.Sprint(e.steps, " steps"), impl.AsLock(a), impl.AsLock(b), e.steps == 0)
	}
}

// seenAnswers are all functions that answer with lists of a console apart, as a console in step.
func seenAnswers() map[string]func(impl.Split) impl.Lock {
	return map[string]func(impl.Split) impl.Lock{
		"AsLock":          impl.AsLock,
		"AsLock of Level": func(s impl.Split) impl.Lock { return impl.AsLock(impl.Level(s)) },
		"ObsOf":           func(s impl.Split) impl.Lock { return impl.Lock{Obs: impl.ObsOf(s)} },
		"both": func(s impl.Split) impl.Lock {
			l := impl.AsLock(s)
			l.Obs.Reads = impl.ObsOf(s).Reads
			return l
		},
	}
}

// spoilLock turns all that is in the lists, and in their room, after it has seen that no two of them share any.
func spoilLock(t *testing.T, what string, l impl.Lock) {
	t.Helper()
	checkApart(t, what, listsOf(l))
	clear(l.Img.Banks[:cap(l.Img.Banks)])
	clear(l.Obs.Frames[:cap(l.Obs.Frames)])
}

func TestSeenAnswersAreNewMemory(t *testing.T) {
	some := someSplits()
	for _, at := range []int{0, 48, 84, 150, 20000} {
		some[fmt.Sprint("Level at ", at)] = splitAt(at)
	}
	for name, start := range some {
		for what, answer := range seenAnswers() {
			what += ", " + name
			s, clean := roomySplit(start)
			got, again, want := answer(s), answer(s), answer(copyOfSplit(start))
			checkLock(t, what+": with room behind the argument", got, want)
			checkSplit(t, what+": the argument", s, start)
			spoilLock(t, what, got)
			checkSplit(t, what+": the argument, as an answer is turned", s, start)
			if !clean() {
				t.Fatalf("%s: the room behind was written into", what)
			}
			spoilSplit(t, what, s)
			checkLock(t, what+": another answer", again, want)
		}
	}
}

// TestSeenListsThatShareOneRoom are answered as if they did not, with lists that share none.
func TestSeenListsThatShareOneRoom(t *testing.T) {
	sharing := func() impl.Split {
		s := sharingSplit()
		s.Picture.Ring.List, s.Sound.Ring.List = nil, nil
		return s
	}
	for what, answer := range seenAnswers() {
		s := sharing()
		got := answer(s)
		checkLock(t, what, got, answer(copyOfSplit(sharing())))
		checkSplit(t, what+": the argument", s, sharing())
		spoilLock(t, what, got)
		checkSplit(t, what+": the argument, as an answer is turned", s, sharing())
	}
	if !impl.LockOk(impl.AsLock(sharing())) {
		t.Error("not Level")
	}
}

// TestComparedListsAreNotChanged, nor the room behind them: which what is compared does not look into.
func TestComparedListsAreNotChanged(t *testing.T) {
	some := someLocks()
	some["some"], some["zero"] = impl.Lock{Obs: someObs()}, impl.Lock{}
	for name, start := range some {
		a, cleanA := roomyLock(start)
		b, cleanB := roomyLock(lockWith(start, func(l *impl.Lock) { l.Obs.Reads = append(l.Obs.Reads, 12345) }))
		for _, x := range []impl.Lock{a, b} {
			for _, y := range []impl.Lock{a, b} {
				same := len(x.Obs.Reads) == len(y.Obs.Reads)
				if impl.LockSame(x, y) != same || impl.ObsSame(x.Obs, y.Obs) != same || impl.ObsBegins(x.Obs, y.Obs) != (len(x.Obs.Reads) <= len(y.Obs.Reads)) {
					t.Fatalf("%s: what stands in the room behind is looked at", name)
				}
			}
		}
		if !sameLock(a, start) || !cleanA() || !cleanB() {
			t.Fatalf("%s: written into", name)
		}
	}
	list := []int{1, 2, 3, 4}
	for cut := range 5 { // two lists of one room
		checkObs(t, "one room", impl.Obs{Samples: list[:cut], Reads: list[:cut]}, impl.Obs{Samples: list, Reads: list[:cut]}, cut == 4, true, cut == 4)
	}
}

// TestSeenAnswersHangOnNoGoroutine: the same asked again and again, by many at a time, however many run at once.
func TestSeenAnswersHangOnNoGoroutine(t *testing.T) {
	some := map[string]impl.Split{"zero": {}, "level": splitAt(150), "behind": splitBehind(150, 20, 30, 4), "wrong": wrongSplits()["Ctrl 256"], "sharing": sharingSplit()}
	for seed := range 4 {
		some[fmt.Sprint("seed ", seed)], _ = impl.Play(newApart(t, seed), mixedRow(seed, 900))
	}
	names := slices.Sorted(maps.Keys(some))
	want, pairs := map[string]impl.Lock{}, map[string][3]bool{}
	ask := func(a, b impl.Split) [3]bool {
		x, y := impl.ObsOf(a), impl.ObsOf(b)
		return [3]bool{impl.ObsSame(x, y), impl.ObsBegins(x, y), impl.LockSame(lockOf(a), lockOf(b))}
	}
	for _, name := range names {
		for what, answer := range seenAnswers() {
			want[what+name] = answer(copyOfSplit(some[name]))
		}
		for _, other := range names {
			pairs[name+other] = ask(copyOfSplit(some[name]), copyOfSplit(some[other]))
		}
	}
	for _, procs := range []int{1, 2, 8} {
		before := runtime.GOMAXPROCS(procs)
		var all sync.WaitGroup
		for range 8 {
			all.Go(func() {
				for _, name := range names {
					for what, answer := range seenAnswers() {
						if got := answer(some[name]); !sameLock(got, want[what+name]) {
							t.Errorf("%s of %s: another answer: %s", what, name, tellLock(got))
						}
					}
					for _, other := range names {
						if got := ask(some[name], some[other]); got != pairs[name+other] {
							t.Errorf("%s against %s: another answer: %v", name, other, got)
						}
					}
				}
			})
		}
		all.Wait()
		runtime.GOMAXPROCS(before)
	}
}
