package tests

import (
	"math"
	"slices"
	"testing"

	"loop.example/g00231/impl"
)

var (
	noCaps     = []int{math.MinInt, math.MinInt + 1, -256, -17, -16, -1, 0, 17, 18, 32, 256, 1 << 32, math.MaxInt - 1, math.MaxInt}
	rightTimes = []int{0, 1, 2, 63, 64, 255, 256, 19998, 19999, 20000}
	noTimes    = []int{math.MinInt, math.MinInt + 1, -20000, -256, -1, 20001, 20002, 65536, 1 << 32, math.MaxInt - 1, math.MaxInt}
	noRegs     = []int{math.MinInt, math.MinInt + 1, -256, -8, -7, -1, 8, 9, 15, 16, 255, 256, 1 << 32, math.MaxInt - 7, math.MaxInt}
	noBytes    = []int{math.MinInt, math.MinInt + 1, -256, -255, -1, 256, 257, 511, 512, 1 << 32, math.MaxInt - 255, math.MaxInt}
)

// recAt is a right record, and of all its kind the only one of that time.
func recAt(t int) impl.Rec { return impl.Rec{T: t, Reg: t % 8, V: t * 31 % 256} }

// ringOf is a right ring with so many records, whose times go on from 100.
func ringOf(cap int, many int) impl.Ring {
	r := impl.Ring{Cap: cap}
	for n := range many {
		r.List = append(r.List, recAt(100+n*7))
	}
	return r
}

func copyOfRing(r impl.Ring) impl.Ring {
	return impl.Ring{Cap: r.Cap, List: append([]impl.Rec(nil), r.List...)}
}

func sameRing(a, b impl.Ring) bool { return a.Cap == b.Cap && slices.Equal(a.List, b.List) }

func isZeroRing(r impl.Ring) bool { return sameRing(r, impl.Ring{}) }

// rightRings are all lengths of all caps, and rings whose records stand at the ends of what is right.
func rightRings() []impl.Ring {
	var rings []impl.Ring
	for cap := 1; cap <= 16; cap++ {
		for many := range cap + 1 {
			rings = append(rings, ringOf(cap, many))
		}
		rings = append(rings,
			impl.Ring{Cap: cap, List: []impl.Rec{}},
			impl.Ring{Cap: cap, List: []impl.Rec{{}}},
			impl.Ring{Cap: cap, List: []impl.Rec{{T: 20000, Reg: 7, V: 255}}},
			impl.Ring{Cap: cap, List: slices.Repeat([]impl.Rec{{}}, cap)},
			impl.Ring{Cap: cap, List: slices.Repeat([]impl.Rec{{T: 20000, Reg: 7, V: 255}}, cap)},
			impl.Ring{Cap: cap, List: slices.Repeat([]impl.Rec{{T: 48, Reg: 3, V: 9}}, cap)})
	}
	return append(rings, impl.Ring{Cap: 2, List: []impl.Rec{{}, {T: 20000, Reg: 7, V: 255}}})
}

// ringWith is a ring with one of its records turned.
func ringWith(r impl.Ring, at int, turn func(*impl.Rec)) impl.Ring {
	r = copyOfRing(r)
	turn(&r.List[at])
	return r
}

// wrongRings have each condition of the chapter broken by itself, and some more than one.
func wrongRings() []impl.Ring {
	var rings []impl.Ring
	for _, cap := range noCaps {
		rings = append(rings, impl.Ring{Cap: cap}, ringOf(cap, 1), ringOf(cap, 2), ringOf(cap, 16))
	}
	for cap := 1; cap <= 16; cap++ {
		rings = append(rings, ringOf(cap, cap+1), ringOf(cap, cap+2), ringOf(cap, 40))
		for _, many := range []int{1, 2, 3, cap - 1, cap} {
			if many >= 1 && many <= cap {
				rings = append(rings, wrongRecords(ringOf(cap, many))...)
			}
		}
	}
	return rings
}

// wrongRecords: one record of a right ring is not as it should be, at each of its places.
func wrongRecords(r impl.Ring) []impl.Ring {
	var rings []impl.Ring
	add := func(at int, turn func(*impl.Rec)) { rings = append(rings, ringWith(r, at, turn)) }
	for at := range r.List {
		for _, v := range noTimes {
			add(at, func(x *impl.Rec) { x.T = v })
		}
		for _, v := range noRegs {
			add(at, func(x *impl.Rec) { x.Reg = v })
		}
		for _, v := range noBytes {
			add(at, func(x *impl.Rec) { x.V = v })
		}
		if at > 0 {
			add(at, func(x *impl.Rec) { x.T = r.List[at-1].T - 1 })
			add(at, func(x *impl.Rec) { x.T = 0 })
		}
	}
	return rings
}

func checkRing(t *testing.T, what string, got, want impl.Ring) {
	t.Helper()
	if !sameRing(got, want) {
		t.Fatalf("%s: %+v, want %+v", what, got, want)
	}
}

func mustPut(t *testing.T, r impl.Ring, x impl.Rec) impl.Ring {
	t.Helper()
	got, ok := impl.RingPut(r, x)
	if !ok {
		t.Fatalf("RingPut(%+v, %+v) = %+v, false", r, x, got)
	}
	checkRing(t, "what comes of RingPut", got, impl.Ring{Cap: r.Cap, List: append(slices.Clone(r.List), x)})
	return got
}

func refusesPut(t *testing.T, r impl.Ring, x impl.Rec) {
	t.Helper()
	was := copyOfRing(r)
	got, ok := impl.RingPut(r, x)
	if ok || !sameRing(got, was) {
		t.Fatalf("RingPut(%+v, %+v) = %+v, %v", r, x, got, ok)
	}
}

// mustTake asks for the head first, which has to be what is taken.
func mustTake(t *testing.T, r impl.Ring, want impl.Rec) impl.Ring {
	t.Helper()
	was := copyOfRing(r)
	head, some := impl.RingHead(r)
	headAgain, someAgain := impl.RingHead(r)
	got, x, ok := impl.RingTake(r)
	if !some || !someAgain || !ok || head != want || headAgain != want || x != want {
		t.Fatalf("of %+v: RingHead = %+v, %v, again %+v, %v; RingTake tells %+v, %v; want %+v", r, head, some, headAgain, someAgain, x, ok, want)
	}
	checkRing(t, "what RingTake leaves", got, impl.Ring{Cap: was.Cap, List: was.List[1:]})
	return got
}

// hasNothing: neither a head, nor what is taken.
func hasNothing(t *testing.T, r impl.Ring) {
	t.Helper()
	if head, some := impl.RingHead(r); some || head != (impl.Rec{}) {
		t.Fatalf("RingHead(%+v) = %+v, %v", r, head, some)
	}
	got, x, ok := impl.RingTake(r)
	if ok || x != (impl.Rec{}) || !sameRing(got, impl.Ring{Cap: r.Cap}) {
		t.Fatalf("RingTake(%+v) = %+v, %+v, %v", r, got, x, ok)
	}
}

func newRing(t *testing.T, cap int) impl.Ring {
	t.Helper()
	r, ok := impl.RingNew(cap)
	if !ok || r.Cap != cap || len(r.List) != 0 {
		t.Fatalf("RingNew(%d) = %+v, %v", cap, r, ok)
	}
	return r
}

func TestRingConstants(t *testing.T) {
	if impl.MaxCap != 16 {
		t.Error(impl.MaxCap)
	}
}

func TestRingOk(t *testing.T) {
	for _, r := range rightRings() {
		if !impl.RingOk(r) {
			t.Errorf("RingOk(%+v) = false", r)
		}
	}
	for _, r := range wrongRings() {
		if impl.RingOk(r) {
			t.Errorf("RingOk(%+v) = true", r)
		}
	}
	if impl.RingOk(impl.Ring{}) {
		t.Error("the zero value is a ring")
	}
}

func TestRingOkOfEachNumber(t *testing.T) {
	for v := -300; v < 21000; v++ {
		for _, e := range []struct {
			r    impl.Ring
			want bool
		}{
			{impl.Ring{Cap: v}, v >= 1 && v <= 16},
			{impl.Ring{Cap: 1, List: []impl.Rec{{T: v}}}, v >= 0 && v <= 20000},
			{impl.Ring{Cap: 1, List: []impl.Rec{{Reg: v}}}, v >= 0 && v <= 7},
			{impl.Ring{Cap: 1, List: []impl.Rec{{V: v}}}, v >= 0 && v <= 255},
			{impl.Ring{Cap: 2, List: []impl.Rec{{}, {T: v}}}, v >= 0 && v <= 20000},
			{impl.Ring{Cap: 2, List: []impl.Rec{{T: 500}, {T: v}}}, v >= 500 && v <= 20000},
			{impl.Ring{Cap: 2, List: []impl.Rec{{T: v}, {T: 500}}}, v >= 0 && v <= 500},
			{impl.Ring{Cap: 2, List: []impl.Rec{{T: v}, {T: 20000}}}, v >= 0 && v <= 20000},
			{impl.Ring{Cap: 3, List: []impl.Rec{{T: 400}, {T: v}, {T: 500}}}, v >= 400 && v <= 500},
		} {
			if got := impl.RingOk(e.r); got != e.want {
				t.Fatalf("RingOk(%+v) = %v", e.r, got)
			}
		}
	}
}

func TestRingNew(t *testing.T) {
	for cap := 1; cap <= 16; cap++ {
		if r := newRing(t, cap); !impl.RingOk(r) {
			t.Errorf("RingNew(%d) is not RingOk", cap)
		}
	}
	for _, cap := range noCaps {
		if r, ok := impl.RingNew(cap); ok || !isZeroRing(r) {
			t.Errorf("RingNew(%d) = %+v, %v", cap, r, ok)
		}
	}
}

func TestRingByHand(t *testing.T) {
	a, b, c := impl.Rec{T: 5, Reg: 1, V: 9}, impl.Rec{T: 5, Reg: 7, V: 255}, impl.Rec{T: 6, V: 3}
	r := newRing(t, 2)
	hasNothing(t, r)
	r = mustPut(t, mustPut(t, r, a), b)
	refusesPut(t, r, c)
	r = mustTake(t, r, a)
	refusesPut(t, r, impl.Rec{T: 4})
	r = mustPut(t, r, c)
	refusesPut(t, r, c)
	r = mustTake(t, mustTake(t, r, b), c)
	hasNothing(t, r)
	r = mustPut(t, r, impl.Rec{})
	mustTake(t, r, impl.Rec{})
}

// TestRecordsComeOutAsTheyWentIn is P13: filled to each height, and emptied.
func TestRecordsComeOutAsTheyWentIn(t *testing.T) {
	for cap := 1; cap <= 16; cap++ {
		for many := range cap + 1 {
			for _, apart := range []int{0, 1, 100} {
				r := newRing(t, cap)
				for n := range many {
					r = mustPut(t, r, impl.Rec{T: n * apart, Reg: n % 8, V: 200 - n})
				}
				for n := range many {
					r = mustTake(t, r, impl.Rec{T: n * apart, Reg: n % 8, V: 200 - n})
				}
				hasNothing(t, r)
			}
		}
	}
}

// TestManyRecordsGoThrough: a ring is filled to a height, and then one goes in as one goes out, far more than it can have.
func TestManyRecordsGoThrough(t *testing.T) {
	for cap := 1; cap <= 16; cap++ {
		for height := range cap {
			r, in, out := newRing(t, cap), 0, 0
			for range height {
				r = mustPut(t, r, recAt(in))
				in++
			}
			for range 100 {
				r = mustPut(t, r, recAt(in))
				in++
				r = mustTake(t, r, recAt(out))
				out++
			}
			for out < in {
				r = mustTake(t, r, recAt(out))
				out++
			}
			hasNothing(t, r)
		}
	}
}

// TestPutsAndTakesByTurns goes over long rows of both, in any order, also where a ring is full or has nothing.
func TestPutsAndTakesByTurns(t *testing.T) {
	for seed := range 48 {
		cap := 1 + seed%16
		r, in, out := newRing(t, cap), 0, 0
		for _, v := range mixedBytes(seed+1, 1500) {
			switch leftBy(v, 2) == 1 {
			case true:
				if in-out == cap {
					refusesPut(t, r, recAt(in))
					continue
				}
				r = mustPut(t, r, recAt(in))
				in++
			case false:
				if in == out {
					hasNothing(t, r)
					continue
				}
				r = mustTake(t, r, recAt(out))
				out++
			}
			if len(r.List) != in-out || !impl.RingOk(r) {
				t.Fatalf("row %d: %+v has not %d records", seed, r, in-out)
			}
		}
	}
}

// TestNoMoreGoInThanARingCanHave is P13 too, whatever the record is.
func TestNoMoreGoInThanARingCanHave(t *testing.T) {
	for cap := 1; cap <= 16; cap++ {
		one, full := ringOf(cap, cap-1), ringOf(cap, cap)
		for _, x := range []impl.Rec{recAt(700), {T: 20000, Reg: 7, V: 255}, recAt(205)} {
			mustPut(t, one, x)
			refusesPut(t, full, x)
			left, _, _ := impl.RingTake(full)
			mustPut(t, left, x)
		}
		refusesPut(t, full, full.List[cap-1])
		refusesPut(t, full, impl.Rec{})
		refusesPut(t, full, impl.Rec{T: -1, Reg: 8, V: 256})
	}
}

// TestTimesDoNotGoBack: a record may be of the time of the one ahead of it, or of a later one.
func TestTimesDoNotGoBack(t *testing.T) {
	for cap := 2; cap <= 16; cap++ {
		for many := 1; many < cap; many++ {
			r := ringOf(cap, many)
			last := r.List[many-1].T
			for _, at := range []int{last, last + 1, last + 2, 19999, 20000} {
				mustPut(t, r, impl.Rec{T: at, Reg: 2, V: 4})
			}
			for _, at := range append([]int{last - 1, last - 2, 99, 1, 0}, noTimes...) {
				refusesPut(t, r, impl.Rec{T: at, Reg: 2, V: 4})
			}
		}
	}
	for cap := 1; cap <= 16; cap++ {
		for _, at := range rightTimes {
			r := newRing(t, cap)
			for range cap {
				r = mustPut(t, r, recAt(at))
			}
			refusesPut(t, r, recAt(at))
			for range cap {
				r = mustTake(t, r, recAt(at))
			}
			hasNothing(t, r)
		}
	}
}

// TestATimeIsForgottenWithItsRecord: a ring that has nothing more may begin at any time anew.
func TestATimeIsForgottenWithItsRecord(t *testing.T) {
	for cap := 1; cap <= 16; cap++ {
		for _, ahead := range rightTimes {
			for _, at := range rightTimes {
				r := mustPut(t, newRing(t, cap), recAt(ahead))
				r = mustTake(t, r, recAt(ahead))
				mustPut(t, r, recAt(at))
			}
		}
	}
}

func TestRecordsThatAreNone(t *testing.T) {
	for cap := 1; cap <= 16; cap++ {
		for _, r := range []impl.Ring{newRing(t, cap), ringOf(cap, cap-1)} {
			last := 0
			if len(r.List) > 0 {
				last = r.List[len(r.List)-1].T
			}
			for reg := range 8 {
				mustPut(t, r, impl.Rec{T: last, Reg: reg})
			}
			for _, v := range []int{0, 1, 127, 128, 254, 255} {
				mustPut(t, r, impl.Rec{T: last, V: v})
			}
			for _, v := range noTimes {
				refusesPut(t, r, impl.Rec{T: v, Reg: 1, V: 1})
			}
			for _, v := range noRegs {
				refusesPut(t, r, impl.Rec{T: last, Reg: v, V: 1})
			}
			for _, v := range noBytes {
				refusesPut(t, r, impl.Rec{T: last, Reg: 1, V: v})
			}
		}
	}
}

func TestEachByteGoesThrough(t *testing.T) {
	for v := range 256 {
		for reg := range 8 {
			for _, at := range rightTimes {
				x := impl.Rec{T: at, Reg: reg, V: v}
				hasNothing(t, mustTake(t, mustPut(t, impl.Ring{Cap: 1}, x), x))
			}
		}
	}
}

// TestWrongRings answer zero and false in all.
func TestWrongRings(t *testing.T) {
	for _, r := range append(wrongRings(), impl.Ring{}) {
		for _, x := range []impl.Rec{{}, recAt(600), {T: 20000, Reg: 7, V: 255}, {T: -1, Reg: 8, V: 256}, {T: math.MinInt, Reg: math.MinInt, V: math.MaxInt}} {
			if got, ok := impl.RingPut(r, x); ok || !isZeroRing(got) {
				t.Fatalf("RingPut(%+v, %+v) = %+v, %v", r, x, got, ok)
			}
		}
		if x, ok := impl.RingHead(r); ok || x != (impl.Rec{}) {
			t.Fatalf("RingHead(%+v) = %+v, %v", r, x, ok)
		}
		if got, x, ok := impl.RingTake(r); ok || !isZeroRing(got) || x != (impl.Rec{}) {
			t.Fatalf("RingTake(%+v) = %+v, %+v, %v", r, got, x, ok)
		}
	}
}

// TestRingsAreApart: two that came from one, one behind the other, hear nothing of each other.
func TestRingsAreApart(t *testing.T) {
	for cap := 2; cap <= 16; cap++ {
		r := ringOf(cap, cap-1)
		a, b := mustPut(t, r, recAt(800)), mustPut(t, r, recAt(900))
		mustTake(t, r, recAt(100))
		checkRing(t, "the first", a, impl.Ring{Cap: cap, List: append(slices.Clone(r.List), recAt(800))})
		checkRing(t, "the second", b, impl.Ring{Cap: cap, List: append(slices.Clone(r.List), recAt(900))})
		checkRing(t, "what both came from", r, ringOf(cap, cap-1))
	}
}

var spareRec = impl.Rec{T: 12345, Reg: 12345, V: 12345}

// roomyRecs has room behind its records, full of what nobody may turn.
func roomyRecs(list []impl.Rec) []impl.Rec {
	return append(slices.Clone(list), spareRec, spareRec, spareRec)[: len(list) : len(list)+3]
}

func roomIsSpare(list []impl.Rec) bool {
	return !slices.ContainsFunc(list[len(list):cap(list)], func(x impl.Rec) bool { return x != spareRec })
}

// ringAnswers are all rings that a ring is answered with.
func ringAnswers(r impl.Ring) []impl.Ring {
	var rings []impl.Ring
	for _, x := range []impl.Rec{recAt(600), {T: 20000, Reg: 7, V: 255}, {}, {T: -1}} {
		got, _ := impl.RingPut(r, x)
		rings = append(rings, got)
	}
	got, _, _ := impl.RingTake(r)
	return append(rings, got)
}

func spoilRecs(list []impl.Rec) {
	list = list[:cap(list)]
	for n := range list {
		list[n] = impl.Rec{T: -7, Reg: -7, V: -7}
	}
}

// TestNoListOfRecordsIsChanged, nor the room behind it, and no answer has room of an argument, or of another one.
func TestNoListOfRecordsIsChanged(t *testing.T) {
	for _, start := range append(rightRings(), wrongRings()...) {
		r := impl.Ring{Cap: start.Cap, List: roomyRecs(start.List)}
		impl.RingOk(r)
		impl.RingHead(r)
		got, want := ringAnswers(r), ringAnswers(start)
		for n := range got {
			checkRing(t, "an answer with room behind the argument", got[n], want[n])
		}
		for n := range got {
			spoilRecs(got[n].List)
			for m := n + 1; m < len(got); m++ {
				checkRing(t, "another answer", got[m], want[m])
			}
		}
		checkRing(t, "the argument", r, start)
		if !roomIsSpare(r.List) {
			t.Fatalf("of %+v: the room behind was written into", start)
		}
	}
}

// TestAnswersKeepNoRing: what is done with an argument later is nothing to what came of it.
func TestAnswersKeepNoRing(t *testing.T) {
	for _, start := range rightRings() {
		r := impl.Ring{Cap: start.Cap, List: roomyRecs(start.List)}
		got, want := ringAnswers(r), ringAnswers(start)
		spoilRecs(r.List)
		for n := range got {
			checkRing(t, "an answer", got[n], want[n])
		}
	}
}
