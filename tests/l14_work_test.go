package tests

import (
	"fmt"
	"math"
	"runtime"
	"slices"
	"sync"
	"testing"
	"time"

	"loop.example/g00231/impl"
)

// follower is one of the two kinds of units that come after, with what the tests' own models want of it.
// Its tick is for a unit ahead of MaxTime; tick and write turn what is the test's own.
type follower[W any] struct {
	at    func(t int, list ...impl.Rec) W
	ok    func(W) bool
	step  func(W, int) (W, bool)
	catch func(W, int) W
	tick  func(*W)
	write func(*W, impl.Rec)
	now   func(W) int
	ring  func(*W) *impl.Ring
	many  func(W) int
	clone func(W) W
	same  func(a, b W) bool
}

// pictureAt is a right unit at a time, with room for 16 records.
func pictureAt(t int, list ...impl.Rec) impl.Picture {
	return impl.Picture{Ppu: ppuAt(t), Ring: impl.Ring{Cap: 16, List: slices.Clone(list)}, Frames: obsAt(t).Frames}
}

func soundAt(t int, list ...impl.Rec) impl.Sound {
	return impl.Sound{Apu: apuAt(t), Ring: impl.Ring{Cap: 16, List: slices.Clone(list)}, Samples: obsAt(t).Samples}
}

func copyOfPicture(w impl.Picture) impl.Picture {
	return impl.Picture{Ppu: copyOfPpu(w.Ppu), Ring: copyOfRing(w.Ring), Frames: copyOfLists(w.Frames)}
}

func copyOfSound(w impl.Sound) impl.Sound {
	return impl.Sound{Apu: w.Apu, Ring: copyOfRing(w.Ring), Samples: slices.Clone(w.Samples)}
}

func samePicture(a, b impl.Picture) bool {
	return samePpu(a.Ppu, b.Ppu) && sameRing(a.Ring, b.Ring) && slices.EqualFunc(a.Frames, b.Frames, slices.Equal[[]int])
}

func sameSound(a, b impl.Sound) bool {
	return a.Apu == b.Apu && sameRing(a.Ring, b.Ring) && slices.Equal(a.Samples, b.Samples)
}

func pictures() follower[impl.Picture] {
	return follower[impl.Picture]{
		at: pictureAt, ok: impl.PictureOk, step: impl.PictureStep, catch: impl.PictureCatch,
		tick: func(w *impl.Picture) {
			var dots []int
			if w.Ppu, dots, _ = wantTick(w.Ppu); w.Ppu.T%64 == 49 {
				w.Frames = append(w.Frames, dots)
			}
		},
		write: func(w *impl.Picture, x impl.Rec) { w.Ppu = wantWrite(w.Ppu, x.Reg, x.V) },
		now:   func(w impl.Picture) int { return w.Ppu.T },
		ring:  func(w *impl.Picture) *impl.Ring { return &w.Ring },
		many:  func(w impl.Picture) int { return len(w.Frames) },
		clone: copyOfPicture, same: samePicture,
	}
}

func sounds() follower[impl.Sound] {
	return follower[impl.Sound]{
		at: soundAt, ok: impl.SoundOk, step: impl.SoundStep, catch: impl.SoundCatch,
		tick: func(w *impl.Sound) {
			var sample int
			if w.Apu, sample, _ = wantApuTick(w.Apu); w.Apu.T%16 == 0 {
				w.Samples = append(w.Samples, sample)
			}
		},
		write: func(w *impl.Sound, x impl.Rec) { w.Apu = wantApuWrite(w.Apu, x.Reg, x.V) },
		now:   func(w impl.Sound) int { return w.Apu.T },
		ring:  func(w *impl.Sound) *impl.Ring { return &w.Ring },
		many:  func(w impl.Sound) int { return len(w.Samples) },
		clone: copyOfSound, same: sameSound,
	}
}

// ofBoth runs a test for each kind of units.
func ofBoth(t *testing.T, ofPictures func(*testing.T, follower[impl.Picture]), ofSounds func(*testing.T, follower[impl.Sound])) {
	t.Helper()
	t.Run("picture", func(t *testing.T) { ofPictures(t, pictures()) })
	t.Run("sound", func(t *testing.T) { ofSounds(t, sounds()) })
}

// wantStep is for a right unit.
func (k follower[W]) wantStep(w W, mark int) (W, bool) {
	w = k.clone(w)
	r, now := k.ring(&w), k.now(w)
	switch {
	case len(r.List) > 0 && r.List[0].T == now:
		k.write(&w, r.List[0])
		r.List = r.List[1:]
		return w, true
	case now < mark && now < 20000:
		k.tick(&w)
		return w, true
	}
	return w, false
}

// wantCatch is for a right unit. It goes over the times, and knows nothing of steps.
func (k follower[W]) wantCatch(w W, mark int) W {
	w = k.clone(w)
	end := max(k.now(w), min(mark, 20000))
	var left []impl.Rec
	for _, x := range k.ring(&w).List {
		if x.T > end {
			left = append(left, x)
			continue
		}
		for k.now(w) < x.T {
			k.tick(&w)
		}
		k.write(&w, x)
	}
	for k.now(w) < end {
		k.tick(&w)
	}
	k.ring(&w).List = left
	return w
}

func (k follower[W]) check(t *testing.T, what string, got, want W) {
	t.Helper()
	if !k.same(got, want) {
		t.Fatalf("%s: %+v, want %+v", what, got, want)
	}
}

// checkStep sees that the argument is as it was too, and that what comes is right.
func (k follower[W]) checkStep(t *testing.T, w W, mark int) (W, bool) {
	t.Helper()
	was := k.clone(w)
	want, wantDone := k.wantStep(w, mark)
	got, done := k.step(w, mark)
	if done != wantDone {
		t.Fatalf("a step of %+v with mark %d is %v", w, mark, done)
	}
	k.check(t, fmt.Sprint("a step with mark ", mark), got, want)
	k.check(t, "the argument of a step", w, was)
	if !k.ok(got) {
		t.Fatalf("a step comes to what is not right: %+v", got)
	}
	return got, done
}

func (k follower[W]) checkCatch(t *testing.T, w W, mark int) W {
	t.Helper()
	was := k.clone(w)
	got := k.catch(w, mark)
	k.check(t, fmt.Sprint("caught up to ", mark, " from ", k.now(w)), got, k.wantCatch(w, mark))
	k.check(t, "the argument of what is caught up", w, was)
	if !k.ok(got) {
		t.Fatalf("caught up to %d it is not right: %+v", mark, got)
	}
	return got
}

// checkZero: of what is not right both answer zero, and a step false.
func (k follower[W]) checkZero(t *testing.T, what string, w W) {
	t.Helper()
	var zero W
	if k.ok(w) {
		t.Fatalf("%s: right: %+v", what, w)
	}
	for _, mark := range []int{math.MinInt, -1, 0, 1, k.now(w), 84, 85, 20000, 20001, math.MaxInt} {
		got, done := k.step(w, mark)
		if done {
			t.Fatalf("%s: a step with mark %d is true", what, mark)
		}
		k.check(t, what+": a step", got, zero)
		k.check(t, what+": caught up", k.catch(w, mark), zero)
	}
}

// recsAt are records of these times, each for another part, with another byte.
func recsAt(times ...int) []impl.Rec {
	var list []impl.Rec
	for n, at := range times {
		list = append(list, impl.Rec{T: min(at, 20000), Reg: []int{5, 1, 4, 0, 2, 3, 4, 4, 6, 1, 7, 5}[n%12], V: (n*37 + at*11 + 130) % 256})
	}
	return list
}

// recRows are rows of records for a unit at t: none, of its very time, of later times, and both.
func recRows(t int) [][]impl.Rec {
	var rows [][]impl.Rec
	for _, apart := range [][]int{
		{}, {0}, {1}, {2}, {0, 0}, {0, 1}, {1, 1}, {0, 0, 0, 1, 1, 3}, {5, 5, 40, 41}, {16, 32, 48, 49, 64},
		{0, 1, 2, 3, 4, 5, 6, 7, 8, 9, 10, 11, 12, 13, 14, 15}, slices.Repeat([]int{0}, 16), slices.Repeat([]int{3}, 16), {0, 20000}, {20000, 20000},
	} {
		times := slices.Clone(apart)
		for n := range times {
			times[n] += t
		}
		rows = append(rows, recsAt(times...))
	}
	return rows
}

// afterTimes are ends of Periods, of beats, of samples, and of all times.
var afterTimes = []int{0, 1, 14, 15, 16, 17, 31, 32, 33, 46, 47, 48, 49, 50, 62, 63, 64, 65, 112, 128, 1000}

var lateTimes = []int{19951, 19952, 19953, 19983, 19999, 20000}

// nearMarks are marks of which none is far from t, but those that are below it.
func nearMarks(t int) []int {
	return []int{math.MinInt, math.MinInt + 1, -20000, -1, 0, 1, t - 64, t - 2, t - 1, t, t + 1, t + 2, t + 3, t + 4, t + 16, t + 48, t + 49, t + 64, t + 65, t + 130}
}

var farMarks = []int{19999, 20000, 20001, 20002, 20064, 1 << 32, math.MaxInt - 1, math.MaxInt}

// eachUnit hands over right units with all rows of records, each with marks of all kinds.
func (k follower[W]) eachUnit(see func(w W, mark int)) {
	for _, at := range slices.Concat(afterTimes, lateTimes) {
		marks := nearMarks(at)
		if at > 19900 {
			marks = append(marks, farMarks...)
		}
		for _, list := range recRows(at) {
			w := k.at(at, list...)
			for _, mark := range marks {
				see(w, mark)
			}
		}
	}
}

func checkRightUnits[W any](t *testing.T, k follower[W]) {
	right := func(what string, w W, want bool) {
		t.Helper()
		if k.ok(w) != want {
			t.Fatalf("%s: %v: %+v", what, !want, w)
		}
	}
	for at := range 300 {
		right("without records", k.at(at), true)
		right("one of its time", k.at(at, impl.Rec{T: at}), true)
		right("one ahead", k.at(at, impl.Rec{T: at - 1}), false)
		right("one ahead, and one of its time", k.at(at, impl.Rec{T: max(at-1, 0)}, impl.Rec{T: at}), at == 0)
	}
	for _, at := range slices.Concat(afterTimes, lateTimes) {
		for _, list := range recRows(at) {
			right("a row of records", k.at(at, list...), true)
		}
		for _, one := range []int{0, 1, at - 64, at - 1, at, at + 1, 19999, 20000, 20001} {
			right(fmt.Sprint("one of ", one, " at ", at), k.at(at, impl.Rec{T: one}), one >= at && one <= 20000)
		}
	}
	for _, r := range rightRings() {
		w := k.at(0)
		*k.ring(&w) = r
		right("a right ring", w, true)
	}
}

func TestUnitsThatAreRight(t *testing.T) {
	ofBoth(t, checkRightUnits[impl.Picture], checkRightUnits[impl.Sound])
}

func checkWrongRings[W any](t *testing.T, k follower[W]) {
	for _, r := range wrongRings() {
		w := k.at(50)
		*k.ring(&w) = r
		k.checkZero(t, "a wrong ring", w)
	}
	for _, at := range []int{1, 84, 20000} {
		for _, ahead := range []int{0, at - 1, at / 2} {
			k.checkZero(t, "a record ahead", k.at(at, impl.Rec{T: ahead}))
			k.checkZero(t, "a record ahead of others", k.at(at, impl.Rec{T: ahead}, impl.Rec{T: at}, impl.Rec{T: 20000}))
			k.checkZero(t, "all records ahead", k.at(at, slices.Repeat([]impl.Rec{{T: ahead}}, 16)...))
		}
	}
	var zero W
	k.checkZero(t, "zero", zero)
}

func TestUnitsWithWrongRings(t *testing.T) {
	ofBoth(t, checkWrongRings[impl.Picture], checkWrongRings[impl.Sound])
}

func TestPicturesThatAreNotRight(t *testing.T) {
	k := pictures()
	for name, p := range wrongPpus() {
		w := pictureAt(84)
		w.Ppu = p
		k.checkZero(t, name, w)
	}
	for _, at := range []int{0, 1, 48, 49, 84, 112, 113, 300} {
		right := len(pictureAt(at).Frames)
		for many := range 8 {
			w := pictureAt(at)
			w.Frames = slices.Repeat([][]int{make([]int, 48)}, many)
			if many != right {
				k.checkZero(t, fmt.Sprint(many, " pictures at ", at), w)
			} else if !impl.PictureOk(w) {
				t.Errorf("%d pictures at %d are not right", many, at)
			}
		}
	}
	for _, many := range []int{0, 1, 47, 49, 64, 96} {
		for n := range 4 {
			w := pictureAt(300)
			w.Frames[n] = make([]int, many)
			k.checkZero(t, fmt.Sprint("picture ", n, " of ", many), w)
		}
	}
	for _, v := range []int{math.MinInt, -1, 64, math.MaxInt} {
		w := pictureAt(84)
		w.Frames[0][20] = v
		if !impl.PictureOk(w) {
			t.Errorf("a picture with %d is not right, of which nothing is said", v)
		}
	}
}

func TestSoundsThatAreNotRight(t *testing.T) {
	k := sounds()
	for n, a := range wrongApus() {
		w := soundAt(0)
		if a.T >= 0 && a.T <= 20000 {
			w = soundAt(a.T)
		}
		w.Apu = a
		k.checkZero(t, fmt.Sprint("wrong unit ", n), w)
	}
	for _, at := range []int{0, 1, 15, 16, 17, 31, 32, 84, 300} {
		right := len(soundAt(at).Samples)
		for many := range 22 {
			w := soundAt(at)
			w.Samples = make([]int, many)
			if many != right {
				k.checkZero(t, fmt.Sprint(many, " samples at ", at), w)
			} else if !impl.SoundOk(w) {
				t.Errorf("%d samples at %d are not right", many, at)
			}
		}
	}
	for _, v := range []int{math.MinInt, -1, 7, math.MaxInt} {
		w := soundAt(84)
		w.Samples[2] = v
		if !impl.SoundOk(w) {
			t.Errorf("a sample of %d is not right, of which nothing is said", v)
		}
	}
}

func TestUnitsAreWrongByTheirOwnTime(t *testing.T) {
	for at := range 200 {
		p, s := pictureAt(at), soundAt(at)
		p.Ppu, s.Apu.T = ppuAt(at+64), at+16
		if impl.PictureOk(p) || impl.SoundOk(s) {
			t.Fatalf("at %d: pictures or samples of another time", at)
		}
	}
}

func TestPictureStepByHand(t *testing.T) {
	w := impl.Picture{Ppu: impl.PpuNew(), Ring: impl.Ring{Cap: 3, List: []impl.Rec{{T: 0, Reg: 5, V: 7}, {T: 1, Reg: 5, V: 9}, {T: 1, Reg: 5, V: 76}}}}
	for n, want := range []struct{ t, recs, pal, dots int }{{0, 2, 7, 0}, {1, 2, 7, 1}, {1, 1, 9, 1}, {1, 0, 12, 1}, {2, 0, 12, 2}} {
		var done bool
		w, done = impl.PictureStep(w, 2)
		if !done || w.Ppu.T != want.t || len(w.Ring.List) != want.recs || w.Ppu.Pal != want.pal || len(w.Ppu.Dots) != want.dots || w.Ring.Cap != 3 {
			t.Fatalf("step %d: %+v, %v", n, w, done)
		}
	}
	if !slices.Equal(w.Ppu.Dots, []int{7, 12}) {
		t.Errorf("dots %v", w.Ppu.Dots)
	}
	if got, done := impl.PictureStep(w, 2); done || !samePicture(got, w) {
		t.Errorf("behind the last step: %+v, %v", got, done)
	}
}

func TestPictureCatchByHand(t *testing.T) {
	w := impl.Picture{Ppu: impl.PpuNew(), Ring: impl.Ring{Cap: 5, List: []impl.Rec{
		{T: 0, Reg: 5, V: 7}, {T: 2, Reg: 5, V: 9}, {T: 2, Reg: 5, V: 12}, {T: 48, Reg: 0, V: 200}, {T: 49, Reg: 5, V: 3},
	}}}
	whole := append([]int{7, 7}, slices.Repeat([]int{12}, 46)...)
	for _, e := range []struct {
		mark int
		want impl.Picture
	}{
		{-1, impl.Picture{Ppu: impl.Ppu{Pal: 7}, Ring: impl.Ring{List: w.Ring.List[1:]}}},
		{0, impl.Picture{Ppu: impl.Ppu{Pal: 7}, Ring: impl.Ring{List: w.Ring.List[1:]}}},
		{1, impl.Picture{Ppu: impl.Ppu{T: 1, Pal: 7, Dots: whole[:1]}, Ring: impl.Ring{List: w.Ring.List[1:]}}},
		{2, impl.Picture{Ppu: impl.Ppu{T: 2, Pal: 12, Dots: whole[:2]}, Ring: impl.Ring{List: w.Ring.List[3:]}}},
		{47, impl.Picture{Ppu: impl.Ppu{T: 47, Pal: 12, Dots: whole[:47]}, Ring: impl.Ring{List: w.Ring.List[3:]}}},
		{48, impl.Picture{Ppu: impl.Ppu{T: 48, Ctrl: 200, Pal: 12, Dots: whole}, Ring: impl.Ring{List: w.Ring.List[4:]}}},
		{49, impl.Picture{Ppu: impl.Ppu{T: 49, Ctrl: 200, Pal: 3, Blank: true}, Frames: [][]int{whole}}},
		{63, impl.Picture{Ppu: impl.Ppu{T: 63, Ctrl: 200, Pal: 3, Blank: true}, Frames: [][]int{whole}}},
		{66, impl.Picture{Ppu: impl.Ppu{T: 66, Ctrl: 200, Pal: 3, Dots: []int{3, 3}}, Frames: [][]int{whole}}},
		{113, impl.Picture{Ppu: impl.Ppu{T: 113, Ctrl: 200, Pal: 3, Blank: true}, Frames: [][]int{whole, slices.Repeat([]int{3}, 48)}}},
	} {
		e.want.Ppu.Table, e.want.Ring.Cap = make([]int, 16), 5
		if got := impl.PictureCatch(w, e.mark); !samePicture(got, e.want) {
			t.Errorf("caught up to %d: %+v, want %+v", e.mark, got, e.want)
		}
	}
}

func TestSoundCatchByHand(t *testing.T) {
	tone := []impl.Rec{{T: 0, Reg: 0, V: 200}, {T: 0, Reg: 1, V: 3}}
	for _, e := range []struct {
		mark int
		list []impl.Rec
		want impl.Apu
		told []int
		left int
	}{
		{-5, nil, impl.Apu{Period: 200, Length: 3}, nil, 0},
		{0, nil, impl.Apu{Period: 200, Length: 3}, nil, 0},
		{1, nil, impl.Apu{T: 1, Period: 200, Count: 200, Bit: 1, Length: 2}, nil, 0},
		{15, nil, impl.Apu{T: 15, Period: 200, Count: 186, Bit: 1, Length: 2}, nil, 0},
		{16, nil, impl.Apu{T: 16, Period: 200, Count: 185, Bit: 1, Length: 2}, []int{8}, 0},
		{33, nil, impl.Apu{T: 33, Period: 200, Count: 168, Bit: 1, Length: 1}, []int{8, 8}, 0},
		// written ahead of the tick of its very time
		{16, []impl.Rec{{T: 15, Reg: 1}}, impl.Apu{T: 16, Period: 200, Count: 185, Bit: 1}, []int{0}, 0},
		{15, []impl.Rec{{T: 16, Reg: 1}}, impl.Apu{T: 15, Period: 200, Count: 186, Bit: 1, Length: 2}, nil, 1},
		{32, []impl.Rec{{T: 16, Reg: 1}}, impl.Apu{T: 32, Period: 200, Count: 169, Bit: 1}, []int{8, 0}, 0},
		{33, []impl.Rec{{T: 32, Reg: 1, V: 1}, {T: 32, Reg: 2, V: 1}}, impl.Apu{T: 33, Period: 200, Count: 168, Bit: 1, Asks: true, Irq: true}, []int{8, 8}, 0},
		{33, []impl.Rec{{T: 32, Reg: 1, V: 1}, {T: 33, Reg: 2, V: 1}}, impl.Apu{T: 33, Period: 200, Count: 168, Bit: 1, Asks: true}, []int{8, 8}, 0},
		{33, []impl.Rec{{T: 32, Reg: 2, V: 1}, {T: 32, Reg: 1, V: 1}, {T: 33, Reg: 3}}, impl.Apu{T: 33, Period: 200, Count: 168, Bit: 1, Asks: true}, []int{8, 8}, 0},
	} {
		w := impl.Sound{Ring: impl.Ring{Cap: 7, List: slices.Concat(tone, e.list)}}
		got := impl.SoundCatch(w, e.mark)
		if got.Apu != e.want || !slices.Equal(got.Samples, e.told) || len(got.Ring.List) != e.left || got.Ring.Cap != 7 {
			t.Errorf("caught up to %d with %+v: %+v", e.mark, e.list, got)
		}
	}
}

func checkEachStep[W any](t *testing.T, k follower[W]) {
	k.eachUnit(func(w W, mark int) { k.checkStep(t, w, mark) })
}

func TestAStepOfEachUnit(t *testing.T) {
	ofBoth(t, checkEachStep[impl.Picture], checkEachStep[impl.Sound])
}

func checkEachCatch[W any](t *testing.T, k follower[W]) {
	k.eachUnit(func(w W, mark int) {
		now, list := k.now(w), k.ring(&w).List
		got := k.checkCatch(t, w, mark)
		end := max(now, min(mark, 20000))
		if k.now(got) != end {
			t.Fatalf("caught up to %d from %d it is at %d", mark, now, k.now(got))
		}
		left := slices.DeleteFunc(slices.Clone(list), func(x impl.Rec) bool { return x.T <= end })
		if !slices.Equal(k.ring(&got).List, left) {
			t.Fatalf("caught up to %d from %d with %+v it has %+v left", mark, now, list, k.ring(&got).List)
		}
		k.check(t, "caught up once more", k.catch(got, mark), got)
		again, done := k.step(got, mark)
		if done {
			t.Fatalf("caught up to %d from %d it has a step left", mark, now)
		}
		k.check(t, "a step of what is caught up", again, got)
	})
}

// TestP14CaughtUp: all records up to the mark are written, each at its own time, and the unit is at the mark.
func TestP14CaughtUp(t *testing.T) {
	ofBoth(t, checkEachCatch[impl.Picture], checkEachCatch[impl.Sound])
}

// stepsTo takes steps as long as they are true. Each is one record, of the very time, or one tick, never both.
func (k follower[W]) stepsTo(t *testing.T, w W, mark int) W {
	t.Helper()
	for {
		now, many := k.now(w), len(k.ring(&w).List)
		due := many > 0 && k.ring(&w).List[0].T == now
		got, done := k.step(w, mark)
		passed, taken := k.now(got)-now, many-len(k.ring(&got).List)
		switch {
		case due && done && passed == 0 && taken == 1:
		case !due && done && now < mark && passed == 1 && taken == 0:
		case !due && !done && (now >= mark || now == 20000) && passed == 0 && taken == 0:
			k.check(t, "as it was", got, w)
			return got
		default:
			t.Fatalf("a step at %d with mark %d is %v, with %d cycles and %d records of %+v", now, mark, done, passed, taken, w)
		}
		w = got
	}
}

func checkStepByStep[W any](t *testing.T, k follower[W]) {
	k.eachUnit(func(w W, mark int) {
		if k.now(w) < 1000 || k.now(w) > 19990 { // a copy of all that was told at each step takes long
			k.check(t, fmt.Sprint("step by step to ", mark), k.stepsTo(t, w, mark), k.catch(w, mark))
		}
	})
}

// TestP14StepByStep: steps, as long as they are true, come to what is caught up.
func TestP14StepByStep(t *testing.T) {
	ofBoth(t, checkStepByStep[impl.Picture], checkStepByStep[impl.Sound])
}

func checkVeryTime[W any](t *testing.T, k follower[W]) {
	for _, at := range slices.Concat(afterTimes, lateTimes) {
		for many := range 17 {
			list := recsAt(slices.Repeat([]int{at}, many)...)
			start := k.at(at, list...)
			want := k.clone(start)
			for _, x := range list {
				k.write(&want, x)
			}
			k.ring(&want).List = nil
			for _, mark := range []int{math.MinInt, -1, 0, at - 1, at} {
				k.check(t, fmt.Sprint(many, " records of ", at, " caught up to ", mark), k.catch(start, mark), want)
			}
			for _, mark := range []int{math.MinInt, at - 1, at, at + 1, math.MaxInt} {
				w := start
				for n := range many {
					var done bool
					w, done = k.step(w, mark)
					if !done || k.now(w) != at || !slices.Equal(k.ring(&w).List, list[n+1:]) {
						t.Fatalf("step %d of %d records of %d with mark %d: %v, %+v", n, many, at, mark, done, w)
					}
				}
				k.check(t, "all of the time written", w, want)
			}
		}
	}
}

// TestRecordsOfTheVeryTime are taken one after another ahead of the tick, wherever the mark is.
func TestRecordsOfTheVeryTime(t *testing.T) {
	ofBoth(t, checkVeryTime[impl.Picture], checkVeryTime[impl.Sound])
}

func checkBehindTheMark[W any](t *testing.T, k follower[W]) {
	for _, at := range slices.Concat(afterTimes, lateTimes) {
		for _, list := range [][]impl.Rec{nil, recsAt(at + 1)[:min(20000-at, 1)], recsAt(at+1, at+1, at+9)[:3*min(20000-at, 1)]} {
			w := k.at(at, list...)
			for _, mark := range []int{math.MinInt, math.MinInt + 1, -1, 0, at - 64, at - 1, at} {
				if mark > at {
					continue
				}
				got, done := k.step(w, mark)
				if done {
					t.Fatalf("a step at %d with mark %d", at, mark)
				}
				k.check(t, "a step of what is there", got, w)
				k.check(t, "what is there, caught up", k.catch(w, mark), w)
			}
		}
	}
}

// TestAUnitThatIsThereStaysAsItWas, also where it is behind the mark, and whatever comes later.
func TestAUnitThatIsThereStaysAsItWas(t *testing.T) {
	ofBoth(t, checkBehindTheMark[impl.Picture], checkBehindTheMark[impl.Sound])
}

func checkMaxTime[W any](t *testing.T, k follower[W]) {
	marks := append([]int{math.MinInt, -1, 0, 19998}, farMarks...)
	there := k.at(20000)
	for _, mark := range marks {
		got, done := k.step(there, mark)
		if done {
			t.Fatalf("a step at MaxTime with mark %d", mark)
		}
		k.check(t, "a step at MaxTime", got, there)
		k.check(t, "caught up at MaxTime", k.catch(there, mark), there)
		k.check(t, "records at MaxTime", k.stepsTo(t, k.at(20000, recsAt(20000, 20000, 20000)...), mark), k.checkCatch(t, k.at(20000, recsAt(20000, 20000, 20000)...), mark))
	}
	for _, mark := range farMarks {
		got := k.checkCatch(t, k.at(19990, recsAt(19990, 19995, 20000, 20000)...), mark)
		if k.now(got) != min(mark, 20000) || (len(k.ring(&got).List) != 0) != (mark == 19999) {
			t.Fatalf("caught up to %d: %+v", mark, got)
		}
	}
}

// TestNoUnitGoesAboveMaxTime, whatever the mark.
func TestNoUnitGoesAboveMaxTime(t *testing.T) {
	ofBoth(t, checkMaxTime[impl.Picture], checkMaxTime[impl.Sound])
}

func checkAllTimes[W any](t *testing.T, k follower[W]) {
	var list []impl.Rec
	for n := range 16 {
		list = append(list, recsAt(n * 1333)[0])
		list[n].Reg, list[n].V = []int{1, 0, 2, 5, 3, 4}[n%6], (n*91+1)%256
	}
	start := k.at(0, list...)
	want := k.checkCatch(t, start, 20000)
	for _, mark := range farMarks[2:] {
		k.check(t, "caught up above MaxTime", k.catch(start, mark), want)
	}
	k.check(t, "step by step to MaxTime", k.stepsTo(t, start, math.MaxInt), want)
	if k.many(want) != k.many(k.at(20000)) || k.now(want) != 20000 || len(k.ring(&want).List) != 0 {
		t.Fatalf("%d were told by %d", k.many(want), k.now(want))
	}
	w := start
	for mark := 0; mark < 20100; mark += 377 {
		w = k.catch(w, mark)
		if k.now(w) != min(mark, 20000) || !k.ok(w) {
			t.Fatalf("caught up to %d: %+v", mark, w)
		}
	}
	k.check(t, "caught up bit by bit", k.catch(w, 20000), want)
}

// TestAllTimes goes from 0 to MaxTime at once, step by step, and bit by bit.
func TestAllTimes(t *testing.T) {
	ofBoth(t, checkAllTimes[impl.Picture], checkAllTimes[impl.Sound])
}

func checkInParts[W any](t *testing.T, k follower[W]) {
	for seed := range 60 {
		mixed := mixedBytes(seed+1, 40)
		at := leftBy(mixed[0]*7, 500)
		now := at
		var list []impl.Rec
		for n := range 1 + leftBy(mixed[1], 16) {
			now += leftBy(mixed[n+2], 3) * leftBy(mixed[n+20], 30)
			list = append(list, impl.Rec{T: now, Reg: leftBy(mixed[n+3], 8), V: leftBy(mixed[n+4]*13, 256)})
		}
		w := k.at(at, list...)
		for _, part := range []int{at - 5, at, at + 1, (at + now) / 2, now, now + 1, now + 70} {
			for _, mark := range []int{part, part + 1, now + 70, now + 200} {
				k.check(t, fmt.Sprint("row ", seed, " to ", part, " and to ", mark), k.catch(k.catch(w, part), mark), k.checkCatch(t, w, max(part, mark)))
			}
		}
		k.check(t, fmt.Sprint("row ", seed), k.stepsTo(t, w, now+70), k.catch(w, now+70))
	}
}

// TestCaughtUpInParts: to one mark, and then to another one, is to the later one.
func TestCaughtUpInParts(t *testing.T) {
	ofBoth(t, checkInParts[impl.Picture], checkInParts[impl.Sound])
}

func checkEachByte[W any](t *testing.T, k follower[W]) {
	for reg := range 8 {
		for v := range 256 {
			for _, at := range []int{0, 15, 48, 300} {
				w := k.at(at, impl.Rec{T: at, Reg: reg, V: v})
				k.checkStep(t, w, at)
				k.checkCatch(t, w, at+1)
			}
		}
	}
}

func TestEachRecordIsWritten(t *testing.T) {
	ofBoth(t, checkEachByte[impl.Picture], checkEachByte[impl.Sound])
}

// TestWhatATickTellsStandsBehind what was told, which stays as it was, and whatever its numbers are.
func TestWhatATickTellsStandsBehind(t *testing.T) {
	for _, at := range []int{48, 112, 176, 64*311 + 48} {
		w := pictureAt(at)
		got, done := impl.PictureStep(w, at+1)
		many := len(w.Frames)
		if !done || len(got.Frames) != many+1 || !slices.EqualFunc(got.Frames[:many], w.Frames, slices.Equal[[]int]) || !slices.Equal(got.Frames[many], w.Ppu.Dots) {
			t.Errorf("pictures behind %d: %v", at, got.Frames)
		}
	}
	for _, at := range []int{15, 31, 47, 79, 19999} {
		w := soundAt(at)
		got, done := impl.SoundStep(w, at+1)
		if _, sample, _ := wantApuTick(w.Apu); !done || !slices.Equal(got.Samples, append(slices.Clone(w.Samples), sample)) {
			t.Errorf("samples behind %d: %v", at, got.Samples)
		}
	}
}

// TestUnitsComeToWhatTheConsoleInStepHas: records of the times at which a console in step is written to.
func TestUnitsComeToWhatTheConsoleInStepHas(t *testing.T) {
	start, ok := impl.LockNew(imageOf(2), nil)
	if !ok {
		t.Fatal("no console")
	}
	l := lockWith(start, func(l *impl.Lock) { l.Mem.Ram[0], l.Cpu.Pc = numberOf("nop"), 0 })
	p := impl.Picture{Ppu: l.Ppu, Ring: impl.Ring{Cap: 16}}
	s := impl.Sound{Apu: l.Apu, Ring: impl.Ring{Cap: 16}}
	mixed := mixedBytes(77, 4000)
	for n := 0; l.Ppu.T < 900; n++ {
		v := leftBy(mixed[n*3]*5, 256)
		if reg := leftBy(mixed[n*3+1], 32); reg < 8 {
			x := impl.Rec{T: l.Ppu.T, Reg: reg, V: v}
			l = impl.LockWrite(l, 8192+reg, v)
			p.Ring, ok = impl.RingPut(p.Ring, x)
		} else if reg < 12 {
			x := impl.Rec{T: l.Ppu.T, Reg: reg - 8, V: v}
			l = impl.LockWrite(l, 16384+reg-8, v)
			s.Ring, ok = impl.RingPut(s.Ring, x)
		}
		if !ok {
			t.Fatal("no room")
		}
		if len(p.Ring.List) > 13 || n%50 == 0 {
			p = impl.PictureCatch(p, l.Ppu.T)
		}
		if len(s.Ring.List) > 13 || n%70 == 0 {
			s = impl.SoundCatch(s, l.Ppu.T)
		}
		l.Cpu.Pc, l.Cpu.I, l.Nmi = 0, true, false
		if l, ok = impl.LockStep(l); !ok {
			t.Fatal("no step")
		}
	}
	p, s = impl.PictureCatch(p, l.Ppu.T), impl.SoundCatch(s, l.Ppu.T)
	if !samePpu(p.Ppu, l.Ppu) || s.Apu != l.Apu || !sameObs(impl.Obs{Frames: p.Frames, Samples: s.Samples}, impl.Obs{Frames: l.Obs.Frames, Samples: l.Obs.Samples}) {
		t.Errorf("apart %+v %+v, in step %s", p, s, tellLock(l))
	}
}

// roomyPicture is a copy with spare room behind all its lists, and a way to see whether that was written into.
func roomyPicture(w impl.Picture) (impl.Picture, func() bool) {
	l, clean := roomyLock(impl.Lock{Ppu: w.Ppu, Obs: impl.Obs{Frames: w.Frames}})
	w = impl.Picture{Ppu: l.Ppu, Ring: impl.Ring{Cap: w.Ring.Cap, List: roomyRecs(w.Ring.List)}, Frames: l.Obs.Frames}
	return w, func() bool { return clean() && roomIsSpare(w.Ring.List) }
}

func roomySound(w impl.Sound) (impl.Sound, func() bool) {
	l, clean := roomyLock(impl.Lock{Obs: impl.Obs{Samples: w.Samples}})
	w = impl.Sound{Apu: w.Apu, Ring: impl.Ring{Cap: w.Ring.Cap, List: roomyRecs(w.Ring.List)}, Samples: l.Obs.Samples}
	return w, func() bool { return clean() && roomIsSpare(w.Ring.List) }
}

// spoilPicture turns all that is in the lists, and in their room, after it has seen that no two of them share any.
func spoilPicture(t *testing.T, w impl.Picture) {
	t.Helper()
	checkApart(t, "a picture unit", listsOf(impl.Lock{Ppu: w.Ppu, Obs: impl.Obs{Frames: w.Frames}}))
	clear(w.Frames[:cap(w.Frames)])
	spoilRecs(w.Ring.List)
}

func spoilSound(t *testing.T, w impl.Sound) {
	t.Helper()
	spoil(w.Samples, -9)
	spoilRecs(w.Ring.List)
}

// answers are all units that one is answered with.
func (k follower[W]) answers(w W) []W {
	var list []W
	for _, mark := range []int{math.MinInt, k.now(w), k.now(w) + 1, min(k.now(w), 20000) + 140} {
		got, _ := k.step(w, mark)
		list = append(list, got, k.catch(w, mark))
	}
	return list
}

func checkMemory[W any](t *testing.T, k follower[W], wrong []W, roomy func(W) (W, func() bool), spoil func(*testing.T, W)) {
	units := wrong
	for _, at := range []int{0, 15, 20, 48, 49, 84, 130, 176, 19990, 20000} {
		for _, list := range recRows(at) {
			units = append(units, k.at(at, list...))
		}
	}
	for _, start := range units {
		w, clean := roomy(start)
		k.ok(w)
		got, again, want := k.answers(w), k.answers(w), k.answers(start)
		k.check(t, "the argument", w, start)
		if !clean() {
			t.Fatalf("the room behind %+v was written into", start)
		}
		for n := range got {
			k.check(t, "an answer, with room behind the argument", got[n], want[n])
			spoil(t, got[n])
			k.check(t, "the argument, as an answer is turned", w, start)
			if !clean() {
				t.Fatalf("an answer has the room behind %+v", start)
			}
			for m := n + 1; m < len(got); m++ {
				k.check(t, "another answer", got[m], want[m])
			}
		}
		spoil(t, w)
		for n := range again {
			k.check(t, "an answer, as the argument is turned", again[n], want[n])
		}
	}
}

func TestUnitsAreNewMemory(t *testing.T) {
	noFrames, noSamples := pictureAt(84), soundAt(84)
	noFrames.Frames, noSamples.Samples = nil, nil
	noPpu, noApu := pictureAt(84, recsAt(84)...), soundAt(84, recsAt(84)...)
	noPpu.Ppu.Pal, noApu.Apu.Bit = 64, 2
	checkMemory(t, pictures(), []impl.Picture{{}, noFrames, noPpu, pictureAt(84, recsAt(83)...)}, roomyPicture, spoilPicture)
	checkMemory(t, sounds(), []impl.Sound{{}, noSamples, noApu, soundAt(84, recsAt(83)...)}, roomySound, spoilSound)
}

// TestAPictureWhoseListsShareOneRoom is answered as if they did not, with lists that share none.
func TestAPictureWhoseListsShareOneRoom(t *testing.T) {
	room := slices.Repeat([]int{9}, 400)
	sharing := func() impl.Picture {
		w := pictureAt(150, recsAt(150, 151, 170)...)
		w.Ppu.Table, w.Ppu.Dots, w.Frames[0], w.Frames[1] = room[:16], room[:22], room[:48], room[:48]
		return w
	}
	k := pictures()
	apart := k.answers(copyOfPicture(sharing()))
	for n, got := range k.answers(sharing()) {
		k.check(t, fmt.Sprint("answer ", n), got, apart[n])
		spoilPicture(t, got)
	}
	k.check(t, "the argument", sharing(), copyOfPicture(sharing()))
	if slices.Max(room) != 9 || slices.Min(room) != 9 {
		t.Error("the room was written into")
	}
}

func checkManyAtATime[W any](t *testing.T, k follower[W]) {
	start := k.at(40, recsAt(40, 40, 41, 41, 41, 47, 48, 48, 63, 64, 90, 90)...)
	want := k.answers(start)
	far := k.wantCatch(start, 300)
	for _, procs := range []int{1, 2, 8} {
		before := runtime.GOMAXPROCS(procs)
		var all sync.WaitGroup
		for range 16 {
			all.Go(func() {
				for range 60 {
					for n, got := range k.answers(start) {
						if !k.same(got, want[n]) {
							t.Errorf("answer %d is another one: %+v", n, got)
						}
					}
					if got := k.catch(start, 300); !k.same(got, far) {
						t.Errorf("caught up it is another one: %+v", got)
					}
				}
			})
		}
		all.Wait()
		runtime.GOMAXPROCS(before)
	}
}

// TestAnswersHangOnNoGoroutine: the same unit asked again and again, by many at a time, however many run at once.
func TestAnswersHangOnNoGoroutine(t *testing.T) {
	ofBoth(t, checkManyAtATime[impl.Picture], checkManyAtATime[impl.Sound])
}

// TestNoGoroutineIsLeft: one that is joined has to end, which may take it a moment.
func TestNoGoroutineIsLeft(t *testing.T) {
	before := runtime.NumGoroutine()
	for at := range 200 {
		pictures().answers(pictureAt(at, recsAt(at, at, at+3)...))
		sounds().answers(soundAt(at, recsAt(at, at, at+3)...))
		impl.PictureCatch(pictureAt(at, recsAt(max(at-1, 0))...), 300)
	}
	for range 1000 {
		if runtime.NumGoroutine() <= before {
			return
		}
		time.Sleep(time.Millisecond)
	}
	t.Errorf("%d goroutines, ahead of it %d", runtime.NumGoroutine(), before)
}
