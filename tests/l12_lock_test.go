package tests

import (
	"fmt"
	"math"
	"slices"
	"testing"

	"loop.example/g00231/impl"
)

// lockTimes are ends of Periods, of beats and of what is seen.
var lockTimes = []int{0, 1, 15, 16, 31, 32, 33, 41, 42, 44, 45, 46, 47, 48, 49, 57, 58, 60, 62, 63, 64, 65, 111, 112, 113, 128, 1000}

// unitAddrs are each part of each unit, the pad, and the ends of what is memory or open.
var unitAddrs = []int{
	8192, 8193, 8194, 8195, 8196, 8197, 8198, 8199, 8202, 16383,
	16384, 16385, 16386, 16387, 16406,
	0, 5, 511, 8191, 16388, 16405, 16407, 32767, 32768, 32770, 49151, 49152, 65535,
}

// obsAt has as many pictures and samples as were told by a time. Their numbers are none that a unit would tell:
// the chapter asks for none of them, and so nothing may hang on them.
func obsAt(t int) impl.Obs {
	o := impl.Obs{Reads: []int{7, -5, math.MaxInt}}
	for at := range t {
		if at%64 == 48 {
			o.Frames = append(o.Frames, slices.Repeat([]int{1000 + at}, 48))
		}
		if at%16 == 15 {
			o.Samples = append(o.Samples, -at)
		}
	}
	return o
}

// lockAt is a right console at a time. Its sound unit asks, which is masked.
func lockAt(t int) impl.Lock {
	return impl.Lock{
		Img: imageOf(3), Pads: padsOf(3), Mem: fullMem(1),
		Cpu: impl.Cpu{A: 201, X: 3, S: 100, Pc: 40, C: true, I: true},
		Ppu: ppuAt(t), Apu: apuAt(t), Pad: impl.Pad{Shift: 173}, Steps: t / 7, Obs: obsAt(t),
	}
}

func lockWith(l impl.Lock, change func(*impl.Lock)) impl.Lock {
	l = copyOfLock(l)
	change(&l)
	return l
}

// fetching is a console whose processor fetches that op.
func fetching(l impl.Lock, op int, arg int) impl.Lock {
	return lockWith(l, func(l *impl.Lock) {
		l.Cpu.Pc = 40
		copy(l.Mem.Ram[40:], []int{op, leftBy(arg, 256), leftBy(arg, 65536) / 256})
	})
}

func copyOfLists(lists [][]int) [][]int {
	var copied [][]int
	for _, list := range lists {
		copied = append(copied, slices.Clone(list))
	}
	return copied
}

func copyOfLock(l impl.Lock) impl.Lock {
	l.Img, l.Pads, l.Mem, l.Ppu = copyImage(l.Img), slices.Clone(l.Pads), copyOfMem(l.Mem), copyOfPpu(l.Ppu)
	l.Obs = impl.Obs{Frames: copyOfLists(l.Obs.Frames), Samples: slices.Clone(l.Obs.Samples), Reads: slices.Clone(l.Obs.Reads)}
	return l
}

func sameObs(a, b impl.Obs) bool {
	return slices.EqualFunc(a.Frames, b.Frames, slices.Equal[[]int]) && slices.Equal(a.Samples, b.Samples) && slices.Equal(a.Reads, b.Reads)
}

func sameLock(a, b impl.Lock) bool {
	return sameImage(a.Img, b.Img) && slices.Equal(a.Pads, b.Pads) && sameMem(a.Mem, b.Mem) && a.Cpu == b.Cpu &&
		samePpu(a.Ppu, b.Ppu) && a.Apu == b.Apu && a.Pad == b.Pad && a.Nmi == b.Nmi && a.Steps == b.Steps && sameObs(a.Obs, b.Obs)
}

// tellLock is a console without its image and its pictures, for a failure's text.
func tellLock(l impl.Lock) string {
	return fmt.Sprintf("{%d banks, pads %v, Mem %v, %+v, %+v, %+v, %+v, Nmi %v, Steps %d, %d pictures, samples %v, reads %v}",
		len(l.Img.Banks), l.Pads, l.Mem, l.Cpu, l.Ppu, l.Apu, l.Pad, l.Nmi, l.Steps, len(l.Obs.Frames), l.Obs.Samples, l.Obs.Reads)
}

func checkLock(t *testing.T, what string, got, want impl.Lock) {
	t.Helper()
	if !sameLock(got, want) {
		t.Fatalf("%s:\n%s, want\n%s", what, tellLock(got), tellLock(want))
	}
}

// wantLockRead is for a right console.
func wantLockRead(l impl.Lock, addr int) (impl.Lock, int) {
	w := copyOfLock(l)
	addr = leftBy(addr, 65536)
	v := 0
	region, part := wantRegion(addr)
	switch region {
	case impl.RgPicture:
		w.Ppu, v = wantRead(l.Ppu, part)
	case impl.RgSound:
		w.Apu, v = wantApuRead(l.Apu, part)
	case impl.RgPad:
		shift := l.Pad.Shift
		w.Pad.Shift = shift / 2
		if l.Pad.Held {
			shift = wantPadAt(l.Pads, l.Ppu.T)
			w.Pad.Shift = shift
		}
		v = shift % 2
	default:
		return w, wantPeek(l.Img, l.Mem, addr)
	}
	w.Obs.Reads = append(w.Obs.Reads, v)
	return w, v
}

// wantLockWrite is for a right console.
func wantLockWrite(l impl.Lock, addr int, v int) impl.Lock {
	w := copyOfLock(l)
	region, part := wantRegion(leftBy(addr, 65536))
	switch region {
	case impl.RgPicture:
		w.Ppu = wantWrite(l.Ppu, part, v)
	case impl.RgSound:
		w.Apu = wantApuWrite(l.Apu, part, v)
	case impl.RgPad:
		w.Pad.Held = leftBy(v, 2) == 1
		if w.Pad.Held || l.Pad.Held {
			w.Pad.Shift = wantPadAt(l.Pads, l.Ppu.T)
		}
	case impl.RgRam:
		w.Mem.Ram[part] = leftBy(v, 256)
	case impl.RgBank, impl.RgLast:
		w.Mem.Bank = leftBy(v, 256) % len(l.Img.Banks)
	}
	return w
}

// cyclesOf is OpCycles by the table that stands in the tests.
func cyclesOf(op int) int {
	if op >= 0 && op < len(opTable) {
		return opTable[op].cycles
	}
	return 2
}

// wantDeed is what the processor does in a step of a right console, and how many cycles it has for it.
func wantDeed(l impl.Lock) (impl.Lock, int) {
	w := copyOfLock(l)
	if l.Nmi {
		w.Nmi = false
		w.Mem, w.Cpu = wantEnter(l.Img, l.Mem, l.Cpu, 65530, true)
		return w, 7
	}
	if l.Apu.Irq && !l.Cpu.I {
		w.Mem, w.Cpu = wantEnter(l.Img, l.Mem, l.Cpu, 65534, true)
		return w, 7
	}
	i, v := wantFetch(l.Img, l.Mem, l.Cpu.Pc), 0
	switch kind, at, put := wantAccess(i, l.Cpu); kind {
	case 1:
		w, v = wantLockRead(w, at)
	case 2:
		w = wantLockWrite(w, at, put)
	}
	w.Mem, w.Cpu = wantExec(w.Mem, w.Cpu, i, v)
	return w, cyclesOf(i.Op)
}

// wantLockStep is for a right console.
func wantLockStep(l impl.Lock) (impl.Lock, bool) {
	w, cycles := wantDeed(l)
	if l.Ppu.T+cycles > 20000 {
		return copyOfLock(l), false
	}
	for range cycles {
		var dots []int
		var asks, told bool
		var sample int
		w.Ppu, dots, asks = wantTick(w.Ppu)
		w.Apu, sample, told = wantApuTick(w.Apu)
		if len(dots) > 0 {
			w.Obs.Frames = append(w.Obs.Frames, dots)
		}
		if told {
			w.Obs.Samples = append(w.Obs.Samples, sample)
		}
		if asks {
			w.Nmi = true
		}
	}
	w.Steps++
	return w, true
}

// checkStep holds LockStep against what is wanted, sees that the console is right behind it, and what was handed in as it was.
func checkStep(t *testing.T, what string, l impl.Lock) impl.Lock {
	t.Helper()
	was := copyOfLock(l)
	want, wantDone := wantLockStep(l)
	got, done := impl.LockStep(l)
	if done != wantDone {
		t.Fatalf("%s: LockStep of %s is %v", what, tellLock(l), done)
	}
	checkLock(t, what, got, want)
	checkLock(t, what+": the argument", l, was)
	if !impl.LockOk(got) {
		t.Fatalf("%s: not LockOk behind the step: %s", what, tellLock(got))
	}
	return got
}

func TestLockConstants(t *testing.T) {
	if impl.MaxSteps != 3000 {
		t.Error(impl.MaxSteps)
	}
}

// wrongLocks are consoles that are not LockOk, each by one of the chapter's conditions.
func wrongLocks() map[string]impl.Lock {
	wrong := map[string]impl.Lock{"zero": {}}
	const now = 64 + 20
	add := func(name string, change func(*impl.Lock)) { wrong[name] = lockWith(lockAt(now), change) }
	for name, m := range wrongImages() {
		add("image: "+name, func(l *impl.Lock) { l.Img = m })
	}
	for n, pads := range wrongPads() {
		add(fmt.Sprint("pads ", n), func(l *impl.Lock) { l.Pads = pads })
	}
	for name, x := range wrongMems() {
		add("memory: "+name, func(l *impl.Lock) { l.Mem = x })
	}
	for name, p := range wrongPpus() {
		add("picture unit: "+name, func(l *impl.Lock) { l.Ppu = p })
	}
	for n, a := range wrongApus() {
		add(fmt.Sprint("sound unit ", n), func(l *impl.Lock) {
			l.Apu = a
			if a.T >= 0 && a.T <= 20000 {
				l.Apu.T = now
			}
		})
	}
	for _, v := range []int{-1, 256, math.MinInt, math.MaxInt} {
		add(fmt.Sprint("A ", v), func(l *impl.Lock) { l.Cpu.A = v })
		add(fmt.Sprint("X ", v), func(l *impl.Lock) { l.Cpu.X = v })
		add(fmt.Sprint("S ", v), func(l *impl.Lock) { l.Cpu.S = v })
		add(fmt.Sprint("Shift ", v), func(l *impl.Lock) { l.Pad.Shift = v })
		add(fmt.Sprint("Shift held ", v), func(l *impl.Lock) { l.Pad = impl.Pad{Held: true, Shift: v} })
	}
	for _, v := range []int{-1, 65536, math.MinInt, math.MaxInt} {
		add(fmt.Sprint("Pc ", v), func(l *impl.Lock) { l.Cpu.Pc = v })
	}
	for _, v := range []int{-1, now + 1, math.MinInt, math.MaxInt} {
		add(fmt.Sprint("Steps ", v), func(l *impl.Lock) { l.Steps = v })
	}
	for _, v := range []int{0, now - 1, now + 1, now - 64, now + 64, 20000} {
		add(fmt.Sprint("T of the sound unit ", v), func(l *impl.Lock) { l.Apu.T = v })
	}
	add("the picture unit one cycle behind", func(l *impl.Lock) { l.Ppu = ppuAt(now - 1) })
	add("the picture unit one cycle ahead", func(l *impl.Lock) { l.Ppu = ppuAt(now + 1) })
	for _, v := range []int{-1, -64, 20001, 20032, math.MinInt, math.MaxInt} {
		add(fmt.Sprint("the time ", v), func(l *impl.Lock) { l.Ppu.T, l.Apu.T, l.Ppu.Dots, l.Steps = v, v, nil, 0 })
	}
	addWrongObs(add)
	return wrong
}

// addWrongObs adds those with pictures or samples that were not told; one picture and five samples would be right.
func addWrongObs(add func(string, func(*impl.Lock))) {
	frame := func(many int) []int { return make([]int, many) }
	for _, many := range []int{0, 1, 47, 49, 64, 96} {
		add(fmt.Sprint("a picture of ", many), func(l *impl.Lock) { l.Obs.Frames = [][]int{frame(many)} })
	}
	add("a nil picture", func(l *impl.Lock) { l.Obs.Frames = [][]int{nil} })
	add("no pictures", func(l *impl.Lock) { l.Obs.Frames = nil })
	add("two pictures", func(l *impl.Lock) { l.Obs.Frames = [][]int{frame(48), frame(48)} })
	add("three pictures", func(l *impl.Lock) { l.Obs.Frames = [][]int{frame(48), frame(48), frame(48)} })
	add("a picture and an empty one", func(l *impl.Lock) { l.Obs.Frames = [][]int{frame(48), {}} })
	for _, many := range []int{0, 1, 4, 6, 7, 84} {
		add(fmt.Sprint(many, " samples"), func(l *impl.Lock) { l.Obs.Samples = make([]int, many) })
	}
}

func checkLockOk(t *testing.T, what string, l impl.Lock, want bool) {
	t.Helper()
	if got := impl.LockOk(l); got != want {
		t.Errorf("%s: LockOk is %v of %s", what, got, tellLock(l))
	}
}

func TestLockOkAtEachTime(t *testing.T) {
	for at := range 400 {
		checkLockOk(t, "right", lockAt(at), true)
	}
	for _, at := range []int{6400, 19967, 19968, 19984, 19999, 20000} {
		checkLockOk(t, "right", lockAt(at), true)
	}
}

// TestLockOkOfEachCount: just so many pictures and samples are right as cycles of theirs lie ahead of the time.
func TestLockOkOfEachCount(t *testing.T) {
	for at := range 300 {
		right := obsAt(at)
		for many := range 8 {
			l := lockWith(lockAt(at), func(l *impl.Lock) { l.Obs.Frames = slices.Repeat([][]int{make([]int, 48)}, many) })
			checkLockOk(t, fmt.Sprint(many, " pictures at ", at), l, many == len(right.Frames))
		}
		for many := range 22 {
			l := lockWith(lockAt(at), func(l *impl.Lock) { l.Obs.Samples = make([]int, many) })
			checkLockOk(t, fmt.Sprint(many, " samples at ", at), l, many == len(right.Samples))
		}
	}
}

func TestLockOkAtEdges(t *testing.T) {
	for _, at := range []int{0, 1, 48, 49, 84, 20000} {
		for _, steps := range []int{0, 1, at - 1, at, at + 1, -1} {
			l := lockWith(lockAt(at), func(l *impl.Lock) { l.Steps = steps })
			checkLockOk(t, fmt.Sprint("Steps ", steps), l, steps >= 0 && steps <= at)
		}
		for v := -3; v < 260; v++ {
			l := lockWith(lockAt(at), func(l *impl.Lock) { l.Pad = impl.Pad{Held: v%2 == 0, Shift: v} })
			checkLockOk(t, fmt.Sprint("Shift ", v), l, v >= 0 && v <= 255)
		}
		for _, pads := range rightPads() {
			checkLockOk(t, "pads", lockWith(lockAt(at), func(l *impl.Lock) { l.Pads = pads }), true)
		}
		for _, nmi := range []bool{false, true} {
			checkLockOk(t, "Nmi", lockWith(lockAt(at), func(l *impl.Lock) { l.Nmi = nmi }), true)
		}
		checkLockOk(t, "no reads", lockWith(lockAt(at), func(l *impl.Lock) { l.Obs.Reads = nil }), true)
		checkLockOk(t, "many reads", lockWith(lockAt(at), func(l *impl.Lock) { l.Obs.Reads = make([]int, 30000) }), true)
	}
}

// TestLockOkOfOnePictureAmongMany: each of them must have its length, wherever it stands.
func TestLockOkOfOnePictureAmongMany(t *testing.T) {
	for which := range 312 {
		for _, many := range []int{0, 47, 49} {
			l := lockAt(20000)
			l.Obs.Frames[which] = make([]int, many)
			checkLockOk(t, fmt.Sprint("picture ", which, " of ", many), l, false)
		}
	}
}

func TestLockOkOfWrongOnes(t *testing.T) {
	for name, l := range wrongLocks() {
		checkLockOk(t, name, l, false)
	}
}

func TestLockNew(t *testing.T) {
	for n := 1; n <= impl.MaxBanks; n++ {
		m := imageOf(n)
		last := m.Banks[n-1]
		for _, pads := range rightPads() {
			l, ok := impl.LockNew(m, pads)
			want := impl.Lock{
				Img: m, Pads: pads, Mem: impl.Mem{Ram: make([]int, 512)},
				Cpu: impl.Cpu{S: 255, I: true, Pc: last[252] + 256*last[253]}, Ppu: impl.Ppu{Table: make([]int, 16)},
			}
			if !ok || !impl.LockOk(l) {
				t.Fatalf("LockNew with %d banks and pads %v is %v", n, pads, ok)
			}
			checkLock(t, "LockNew", l, want)
		}
	}
}

func TestLockNewOfWhatIsNone(t *testing.T) {
	check := func(m impl.Image, pads []int) {
		t.Helper()
		l, ok := impl.LockNew(m, pads)
		if ok {
			t.Fatalf("LockNew of %d banks and pads %v is true", len(m.Banks), pads)
		}
		checkLock(t, "LockNew", l, impl.Lock{})
	}
	for _, m := range wrongImages() {
		for _, pads := range rightPads() {
			check(m, pads)
		}
		check(m, []int{-1})
	}
	for _, pads := range wrongPads() {
		check(imageOf(1), pads)
		check(imageOf(8), pads)
		check(impl.Image{}, pads)
	}
}

func checkLockRead(t *testing.T, l impl.Lock, addr int, want impl.Lock, wantV int) {
	t.Helper()
	was := copyOfLock(l)
	got, v := impl.LockRead(l, addr)
	if v != wantV {
		t.Fatalf("LockRead at %d = %d, want %d, of %s", addr, v, wantV, tellLock(l))
	}
	checkLock(t, fmt.Sprint("LockRead at ", addr), got, want)
	checkLock(t, "the argument of LockRead", l, was)
}

func checkLockWrite(t *testing.T, l impl.Lock, addr int, v int, want impl.Lock) {
	t.Helper()
	was := copyOfLock(l)
	checkLock(t, fmt.Sprint("LockWrite at ", addr, " of ", v), impl.LockWrite(l, addr, v), want)
	checkLock(t, "the argument of LockWrite", l, was)
}

func TestLockReadByHand(t *testing.T) {
	l := lockAt(64 + 20)
	held := lockWith(l, func(l *impl.Lock) { l.Pad = impl.Pad{Held: true, Shift: 1} })
	quiet := lockWith(l, func(l *impl.Lock) { l.Ppu.Blank, l.Apu.Irq, l.Apu.Length = false, false, 0 })
	reading := func(v int, more func(*impl.Lock)) func(*impl.Lock) {
		return func(l *impl.Lock) {
			more(l)
			l.Obs.Reads = []int{7, -5, math.MaxInt, v}
		}
	}
	stays := func(*impl.Lock) {}
	for _, e := range []struct {
		l       impl.Lock
		addr, v int
		change  func(*impl.Lock)
	}{
		{l, 0, 1, stays}, {l, 1, 8, stays}, {l, 512, 1, stays}, {l, 65536, 1, stays}, {l, -65536, 1, stays}, {l, math.MinInt, 1, stays},
		{l, 32768, 37, stays}, {l, 49151, wantPeek(l.Img, l.Mem, 49151), stays}, {l, 49152, 74, stays}, {l, -16384, 74, stays},
		{l, 65535, wantPeek(l.Img, l.Mem, 65535), stays}, {l, -1, wantPeek(l.Img, l.Mem, 65535), stays}, {l, math.MaxInt, wantPeek(l.Img, l.Mem, 65535), stays},
		{l, 16388, 0, stays}, {l, 16405, 0, stays}, {l, 16407, 0, stays}, {l, 32767, 0, stays},
		{l, 8192, 0, reading(0, stays)}, {l, 8193, 0, reading(0, stays)}, {l, 8195, 0, reading(0, stays)},
		{l, 8197, 0, reading(0, stays)}, {l, 8199, 0, reading(0, stays)}, {l, 8192 - 65536, 0, reading(0, stays)},
		{l, 8194, 128, reading(128, func(l *impl.Lock) { l.Ppu.Blank = false })},
		{l, 8194 + 65536, 128, reading(128, func(l *impl.Lock) { l.Ppu.Blank = false })},
		{l, 16378, 128, reading(128, func(l *impl.Lock) { l.Ppu.Blank = false })},
		{l, 8196, 40, reading(40, func(l *impl.Lock) { l.Ppu.Addr = 10 })},
		{quiet, 8194, 0, reading(0, stays)},
		{l, 16384, 0, reading(0, stays)}, {l, 16385, 0, reading(0, stays)}, {l, 16387, 0, reading(0, stays)},
		{l, 16386, 129, reading(129, func(l *impl.Lock) { l.Apu.Irq = false })},
		{l, 16386 - 65536, 129, reading(129, func(l *impl.Lock) { l.Apu.Irq = false })},
		{quiet, 16386, 0, reading(0, stays)},
		{l, 16406, 1, reading(1, func(l *impl.Lock) { l.Pad.Shift = 86 })},
		{l, 16406 + 65536*3, 1, reading(1, func(l *impl.Lock) { l.Pad.Shift = 86 })},
		{held, 16406, 0, reading(0, func(l *impl.Lock) { l.Pad.Shift = 166 })},
	} {
		checkLockRead(t, e.l, e.addr, lockWith(e.l, e.change), e.v)
	}
}

func TestLockWriteByHand(t *testing.T) {
	l := lockAt(64 + 20)
	held := lockWith(l, func(l *impl.Lock) { l.Pad = impl.Pad{Held: true, Shift: 1} })
	stays := func(*impl.Lock) {}
	for _, e := range []struct {
		l       impl.Lock
		addr, v int
		change  func(*impl.Lock)
	}{
		{l, 0, 99, func(l *impl.Lock) { l.Mem.Ram[0] = 99 }},
		{l, 512 + 7, 256 + 3, func(l *impl.Lock) { l.Mem.Ram[7] = 3 }},
		{l, math.MinInt, -1, func(l *impl.Lock) { l.Mem.Ram[0] = 255 }},
		{l, 65536 + 8191, 0, func(l *impl.Lock) { l.Mem.Ram[511] = 0 }},
		{l, 32768, 5, func(l *impl.Lock) { l.Mem.Bank = 2 }},
		{l, 49151, 3, func(l *impl.Lock) { l.Mem.Bank = 0 }},
		{l, 49152, 255, func(l *impl.Lock) { l.Mem.Bank = 0 }},
		{l, 65535, 256, func(l *impl.Lock) { l.Mem.Bank = 0 }},
		{l, -1, 254, func(l *impl.Lock) { l.Mem.Bank = 2 }},
		{l, math.MaxInt, 2, func(l *impl.Lock) { l.Mem.Bank = 2 }},
		{l, 16388, 1, stays}, {l, 16405, 1, stays}, {l, 16407, 1, stays}, {l, 32767, 1, stays},
		{l, 8192, 5, func(l *impl.Lock) { l.Ppu.Ctrl = 5 }},
		{l, 8193, 300, func(l *impl.Lock) { l.Ppu.Scroll = 44 }},
		{l, 8194, 1, stays},
		{l, 8195, 18, func(l *impl.Lock) { l.Ppu.Addr = 2 }},
		{l, 8196, 65, func(l *impl.Lock) { l.Ppu.Table[9], l.Ppu.Addr = 1, 10 }},
		{l, 16381, -1, func(l *impl.Lock) { l.Ppu.Pal = 63 }},
		{l, 8198, 1, stays}, {l, 16383, 1, stays},
		{l, 16384, 5, func(l *impl.Lock) { l.Apu.Period = 5 }},
		{l, 16385, 33, func(l *impl.Lock) { l.Apu.Length = 1 }},
		{l, 16386, 4, func(l *impl.Lock) { l.Apu.Asks, l.Apu.Irq = false, false }},
		{l, 16386, 5, stays},
		{l, 16387, 5, func(l *impl.Lock) { l.Apu.Irq = false }},
		{l, 16387 - 65536, 5, func(l *impl.Lock) { l.Apu.Irq = false }},
		{l, 16406, 0, stays}, {l, 16406, 256, stays}, {l, 16406, math.MinInt, stays},
		{l, 16406, 1, func(l *impl.Lock) { l.Pad = impl.Pad{Held: true, Shift: 166} }},
		{l, 16406, -1, func(l *impl.Lock) { l.Pad = impl.Pad{Held: true, Shift: 166} }},
		{held, 16406, 2, func(l *impl.Lock) { l.Pad = impl.Pad{Shift: 166} }},
		{held, 16406 + 65536, 257, func(l *impl.Lock) { l.Pad = impl.Pad{Held: true, Shift: 166} }},
	} {
		checkLockWrite(t, e.l, e.addr, e.v, lockWith(e.l, e.change))
	}
}

func TestLockReadAndWriteOfEachKind(t *testing.T) {
	for _, at := range []int{0, 48, 63, 64, 200} {
		for kind := range 8 {
			l := lockWith(lockAt(at), func(l *impl.Lock) {
				l.Pad.Held, l.Ppu.Blank, l.Apu.Irq, l.Nmi = kind%2 == 0, kind/2%2 == 0, kind/4 == 0, kind%3 == 0
				l.Pads = padsOf(kind)
			})
			for _, addr := range append(unitAddrs, someAddrs...) {
				want, v := wantLockRead(l, addr)
				checkLockRead(t, l, addr, want, v)
				for _, v := range []int{0, 1, 77, 255, 256, -1, math.MinInt, math.MaxInt} {
					checkLockWrite(t, l, addr, v, wantLockWrite(l, addr, v))
				}
			}
		}
	}
}

func TestLockReadAtEachAddress(t *testing.T) {
	l := lockWith(lockAt(64), func(l *impl.Lock) { l.Img = imageOf(2) })
	for addr := -3; addr < 65540; addr += 1 + addr/8300 {
		got, v := impl.LockRead(l, addr)
		want, wantV := wantLockRead(l, addr)
		if v != wantV || !sameLock(got, want) {
			t.Fatalf("LockRead at %d = %d, want %d", addr, v, wantV)
		}
	}
}

// stepCycles: how much more the time of both units is behind a step; -1 where the step is not as P12 has it.
func stepCycles(t *testing.T, l impl.Lock) (impl.Lock, int) {
	t.Helper()
	got, done := impl.LockStep(l)
	if !done || got.Ppu.T != got.Apu.T || got.Steps != l.Steps+1 || !impl.LockOk(got) {
		t.Fatalf("LockStep of %s is %v, %s", tellLock(l), done, tellLock(got))
	}
	return got, got.Ppu.T - l.Ppu.T
}

// TestP12AStepTakesAsManyCyclesAsItsOp, or seven: for each byte as an op, at each kind of time.
func TestP12AStepTakesAsManyCyclesAsItsOp(t *testing.T) {
	for op := range 256 {
		for n := range 8 {
			at := lockTimes[(op+n*3)%len(lockTimes)]
			l := fetching(lockAt(at), op, 300)
			if _, cycles := stepCycles(t, l); cycles != cyclesOf(op) || cycles != impl.OpCycles(op) {
				t.Fatalf("a step with %d at %d took %d cycles", op, at, cycles)
			}
			quiet := lockWith(l, func(l *impl.Lock) { l.Apu.Irq, l.Cpu.I = false, false })
			if _, cycles := stepCycles(t, quiet); cycles != cyclesOf(op) {
				t.Fatalf("a step with %d at %d, that nobody asks in, took %d cycles", op, at, cycles)
			}
			for _, change := range []func(*impl.Lock){
				func(l *impl.Lock) { l.Nmi = true },
				func(l *impl.Lock) { l.Cpu.I = false },
				func(l *impl.Lock) { l.Nmi, l.Cpu.I = true, false },
				func(l *impl.Lock) { l.Nmi, l.Cpu.I, l.Apu.Irq = true, false, false },
			} {
				if _, cycles := stepCycles(t, lockWith(l, change)); cycles != 7 {
					t.Fatalf("a step that is entered took %d cycles", cycles)
				}
			}
		}
	}
}

func TestLockStepOfEachOp(t *testing.T) {
	for op := range impl.Ops + 2 {
		for n, at := range lockTimes {
			for _, arg := range []int{300, unitAddrs[(op+n)%len(unitAddrs)]} {
				l := fetching(lockAt(at), op, arg)
				checkStep(t, fmt.Sprint("op ", op, " at ", at), l)
				l.Nmi = true
				checkStep(t, fmt.Sprint("Nmi ahead of op ", op, " at ", at), l)
			}
		}
	}
}

// TestLockStepOfEachAccess: each op that reads or writes, at each part of each region, with each kind of unit.
func TestLockStepOfEachAccess(t *testing.T) {
	for _, name := range []string{"lda", "lax", "ada", "sta", "sax"} {
		for _, arg := range unitAddrs {
			for _, at := range []int{0, 31, 32, 45, 46, 48, 49, 62, 63, 64, 127} {
				for kind := range 8 {
					l := fetching(lockAt(at), numberOf(name), arg)
					l.Cpu.X, l.Cpu.A = kind%3, 200+kind
					l.Pad.Held, l.Ppu.Blank, l.Apu.Irq = kind%2 == 0, kind/2%2 == 0, kind/4 == 0
					checkStep(t, fmt.Sprint(name, " ", arg, " at ", at), l)
				}
			}
		}
	}
}

// TestAnOpReadsAheadOfItsCycles: what is read is as it was when the step began, and the cycles come behind it.
func TestAnOpReadsAheadOfItsCycles(t *testing.T) {
	start := func(at int, change func(*impl.Lock)) impl.Lock {
		l := fetching(lockAt(at), numberOf("lda"), 8194)
		l.Ppu.Blank = false
		change(&l)
		return l
	}
	stays := func(*impl.Lock) {}
	blank := func(l *impl.Lock) { l.Ppu.Blank = true }
	sound := func(l *impl.Lock) { l.Mem.Ram[41], l.Mem.Ram[42] = 2, 64 }
	pad := func(l *impl.Lock) { l.Mem.Ram[41], l.Mem.Ram[42], l.Pad.Held, l.Pads = 22, 64, true, []int{0, 255} }
	for _, e := range []struct {
		name  string
		l     impl.Lock
		v     int
		blank bool
		irq   bool
	}{
		{"ahead of the blank cycle", start(44, stays), 0, false, true},
		{"it becomes blank in the last cycle", start(45, stays), 0, true, true},
		{"it becomes blank in the first cycle", start(48, stays), 0, true, true},
		{"it was blank", start(49, blank), 128, false, true},
		{"it was blank, and is read at the blank cycle", start(48, blank), 128, true, true},
		{"it is no more blank in the last cycle", start(60, blank), 128, false, true},
		{"the sound unit asks", start(31, sound), 129, false, false},
		{"it asks in the last cycle", start(29, func(l *impl.Lock) { sound(l); l.Apu.Irq, l.Apu.Length = false, 1 }), 1, false, true},
		{"it asks in the first cycle", start(32, func(l *impl.Lock) { sound(l); l.Apu.Irq, l.Apu.Length = false, 1 }), 1, false, true},
		{"it asked, and asks again", start(32, func(l *impl.Lock) { sound(l); l.Apu.Length = 1 }), 129, false, true},
		{"the pad in the last cycle of a Period", start(63, pad), 0, false, true},
		{"the pad in the first cycle of a Period", start(64, pad), 1, false, true},
	} {
		got, done := impl.LockStep(e.l)
		if !done || got.Cpu.A != e.v || got.Ppu.Blank != e.blank || got.Apu.Irq != e.irq {
			t.Errorf("%s: A is %d, Blank %v, Irq %v", e.name, got.Cpu.A, got.Ppu.Blank, got.Apu.Irq)
		}
		if want := []int{7, -5, math.MaxInt, e.v}; !slices.Equal(got.Obs.Reads, want) {
			t.Errorf("%s: reads %v, want %v", e.name, got.Obs.Reads, want)
		}
	}
}

// TestWhatIsReadOfMemoryIsNotTold: what is fetched isn't either, whatever is fetched of a unit's region.
func TestWhatIsReadOfMemoryIsNotTold(t *testing.T) {
	for _, name := range []string{"lda", "lax", "ada"} {
		for _, addr := range []int{0, 511, 8191, 16388, 16405, 16407, 32767, 32768, 49151, 49152, 65530} {
			l := fetching(lockAt(70), numberOf(name), addr)
			l.Cpu.X = 0
			if got, done := impl.LockStep(l); !done || !slices.Equal(got.Obs.Reads, l.Obs.Reads) {
				t.Errorf("%s %d: reads %v", name, addr, got.Obs.Reads)
			}
		}
	}
	for _, pc := range []int{8190, 8191, 8192, 8194, 8196, 16383, 16384, 16386, 16387, 16388, 16405, 16406, 16407, 32766, 32767} {
		l := lockWith(lockAt(70), func(l *impl.Lock) { l.Cpu.Pc, l.Mem.Ram[510], l.Mem.Ram[511] = pc, 20, 1 })
		got := checkStep(t, fmt.Sprint("Pc ", pc), l)
		if !slices.Equal(got.Obs.Reads, l.Obs.Reads) || got.Ppu.Addr != l.Ppu.Addr || !got.Ppu.Blank || !got.Apu.Irq || got.Pad != l.Pad {
			t.Errorf("Pc %d: what was fetched turned a unit", pc)
		}
	}
}

// TestNmiIsFirst: where both ask, the other one is masked by then, and waits for cli.
func TestNmiIsFirst(t *testing.T) {
	l := fetching(lockAt(70), numberOf("inx"), 0)
	l.Nmi, l.Cpu.I = true, false
	last := l.Img.Banks[2]
	last[250], last[251], last[254], last[255] = 60, 1, 70, 1
	l.Mem.Ram[60+256], l.Mem.Ram[61+256] = numberOf("nop"), numberOf("cli")
	got, done := impl.LockStep(l)
	if !done || got.Nmi || got.Cpu.Pc != 316 || !got.Cpu.I || !got.Apu.Irq || got.Ppu.T != 77 || got.Cpu.S != 97 {
		t.Fatalf("behind the first step: %s", tellLock(got))
	}
	if !slices.Equal(got.Mem.Ram[256+98:256+101], []int{1, 40, 0}) {
		t.Errorf("pushed: %v", got.Mem.Ram[256+98:256+101])
	}
	got, done = impl.LockStep(got)
	if !done || got.Cpu.Pc != 317 || got.Ppu.T != 79 {
		t.Fatalf("behind the second step: %s", tellLock(got))
	}
	got, done = impl.LockStep(got)
	if !done || got.Cpu.Pc != 318 || got.Cpu.I || got.Ppu.T != 81 {
		t.Fatalf("behind the third step: %s", tellLock(got))
	}
	got, done = impl.LockStep(got)
	if !done || got.Cpu.Pc != 326 || !got.Cpu.I || !got.Apu.Irq || got.Ppu.T != 88 || got.Cpu.S != 94 || got.Cpu.X != 3 {
		t.Fatalf("behind the fourth step: %s", tellLock(got))
	}
}

// TestWhoAsksIsMaskedByI, and the picture unit is not.
func TestWhoAsksIsMaskedByI(t *testing.T) {
	for kind := range 8 {
		nmi, irq, mask := kind%2 == 1, kind/2%2 == 1, kind/4 == 1
		l := fetching(lockAt(70), numberOf("inx"), 0)
		l.Nmi, l.Apu.Irq, l.Cpu.I = nmi, irq, mask
		got := checkStep(t, fmt.Sprint("kind ", kind), l)
		wantX, wantT, wantPc := 4, 72, 41
		switch {
		case nmi:
			wantX, wantT, wantPc = 3, 77, l.Img.Banks[2][250]+256*l.Img.Banks[2][251]
		case irq && !mask:
			wantX, wantT, wantPc = 3, 77, l.Img.Banks[2][254]+256*l.Img.Banks[2][255]
		}
		if got.Cpu.X != wantX || got.Ppu.T != wantT || got.Cpu.Pc != wantPc || got.Nmi || got.Apu.Irq != irq {
			t.Errorf("Nmi %v, Irq %v, I %v: %s", nmi, irq, mask, tellLock(got))
		}
	}
}

// TestNmiIsToldByATick, in an op's step as in one that Nmi itself began.
func TestNmiIsToldByATick(t *testing.T) {
	for at := 38; at < 180; at++ {
		for _, ctrl := range []int{0, 127, 128, 255} {
			for op := at % 3; op < impl.Ops; op += 3 {
				for _, nmi := range []bool{false, true} {
					l := fetching(lockAt(at), op, 300)
					l.Nmi, l.Ppu.Ctrl = nmi, ctrl
					cycles := cyclesOf(op)
					if nmi {
						cycles = 7
					}
					want := ctrl > 127 && slices.ContainsFunc(blanksBy(at+cycles), func(b int) bool { return b >= at })
					if got, _ := impl.LockStep(l); got.Nmi != want {
						t.Fatalf("op %d at %d with Ctrl %d, Nmi %v: Nmi is %v", op, at, ctrl, nmi, got.Nmi)
					}
				}
			}
		}
	}
}

// TestWhatIsWrittenHoldsInTheSameStep: a write of Ctrl comes ahead of the tick that would ask, or does.
func TestWhatIsWrittenHoldsInTheSameStep(t *testing.T) {
	for at := 40; at < 60; at++ {
		for _, e := range []struct{ was, put int }{{0, 128}, {128, 0}, {128, 255}, {0, 127}} {
			l := fetching(lockAt(at), numberOf("sta"), 8192)
			l.Ppu.Ctrl, l.Cpu.A = e.was, e.put
			got, _ := impl.LockStep(l)
			if want := e.put > 127 && at > 44 && at <= 48; got.Nmi != want || got.Ppu.Ctrl != e.put {
				t.Errorf("Ctrl %d, %d put at %d: Nmi is %v", e.was, e.put, at, got.Nmi)
			}
		}
	}
}

// TestPicturesAndSamplesStandInOrder: they are those that PpuTick and ApuTick tell, one behind the other.
func TestPicturesAndSamplesStandInOrder(t *testing.T) {
	l, ok := impl.LockNew(programOf(7), padsOf(4))
	if !ok {
		t.Fatal("no console")
	}
	for range 2000 {
		deed, cycles := wantDeed(l)
		p, a, frames, samples := deed.Ppu, deed.Apu, l.Obs.Frames, l.Obs.Samples
		for range cycles {
			var dots []int
			var sample int
			var told bool
			p, dots, _ = impl.PpuTick(p)
			if len(dots) > 0 {
				frames = append(slices.Clone(frames), dots)
			}
			a, sample, told = impl.ApuTick(a)
			if told {
				samples = append(slices.Clone(samples), sample)
			}
		}
		next, done := impl.LockStep(l)
		if !done || !samePpu(next.Ppu, p) || next.Apu != a || !sameObs(next.Obs, impl.Obs{Frames: frames, Samples: samples, Reads: deed.Obs.Reads}) {
			t.Fatalf("behind %s: %s", tellLock(l), tellLock(next))
		}
		l = next
	}
	if len(l.Obs.Frames) < 50 || len(l.Obs.Samples) < 200 || slices.Max(l.Obs.Samples) != 8 {
		t.Errorf("%d pictures, samples %v", len(l.Obs.Frames), l.Obs.Samples)
	}
}

// TestAStepByHand: a short program, step by step, with all that is told of it.
func TestAStepByHand(t *testing.T) {
	bank, fault := impl.Assemble("ldi 129\nsta 8192\nsta 16406\nlda 16406\nsta 7\nlda 8194\njsr 49200\njmp 49168\nat 48\nrts\nat 128\ninx\nrti\nat 250\nbyte 128\nbyte 192\nbyte 0\nbyte 192\n")
	l, ok := impl.LockNew(impl.Image{Banks: [][]int{bank}}, []int{170, 85})
	if fault != 0 || !ok {
		t.Fatal("no console", fault)
	}
	for n, e := range []struct {
		t, pc, a, x int
		reads       []int
		nmi         bool
	}{
		{2, 49154, 129, 0, nil, false},
		{6, 49157, 129, 0, nil, false},
		{10, 49160, 129, 0, nil, false},
		{14, 49163, 0, 0, []int{0}, false},
		{18, 49166, 0, 0, []int{0}, false},
		{22, 49169, 0, 0, []int{0, 0}, false},
		{28, 49200, 0, 0, []int{0, 0}, false},
		{34, 49172, 0, 0, []int{0, 0}, false},
		{37, 49168, 0, 0, []int{0, 0}, false}, // the bytes at 49168: 32 (no op), then jsr again
		{39, 49169, 0, 0, []int{0, 0}, false},
		{45, 49200, 0, 0, []int{0, 0}, false},
		{51, 49172, 0, 0, []int{0, 0}, true},
		{58, 49280, 0, 0, []int{0, 0}, false},
		{60, 49281, 0, 1, []int{0, 0}, false},
		{66, 49172, 0, 1, []int{0, 0}, false},
	} {
		next, done := impl.LockStep(l)
		c := next.Cpu
		if !done || next.Ppu.T != e.t || next.Apu.T != e.t || c.Pc != e.pc || c.A != e.a || c.X != e.x || next.Nmi != e.nmi || next.Steps != n+1 || !slices.Equal(next.Obs.Reads, e.reads) {
			t.Fatalf("step %d: %s, want %+v", n, tellLock(next), e)
		}
		l = next
	}
	if l.Pad != (impl.Pad{Held: true, Shift: 170}) || len(l.Obs.Frames) != 1 || !slices.Equal(l.Obs.Samples, []int{0, 0, 0, 0}) {
		t.Errorf("at the end: %s", tellLock(l))
	}
}

// programOf is a program of ops that reach all units, with ways back from Nmi and from who asks; another for each seed.
func programOf(seed int) impl.Image {
	state := uint64(seed)*2654435761 + 12345
	next := func(by int) int {
		state = state*6364136223846793005 + 1442695040888963407
		return int(state >> 33 % uint64(by))
	}
	addrs := []int{8192, 8192, 8193, 8194, 8195, 8196, 8197, 8194, 16384, 16385, 16386, 16386, 16387, 16406, 16406, 5, 6, 32768, 32770, 20000}
	names := []string{"inx", "dex", "cli", "sec", "clc", "tax", "txa", "pha", "pla", "adi", "sbi", "ani", "ori", "xri", "cpi", "sei"}
	fill := func(bank []int, at, end int) int {
		for at+5 <= end {
			addr := addrs[next(len(addrs))]
			switch next(4) {
			case 0:
				at += copy(bank[at:], []int{numberOf("ldi"), []int{1, 2, 129, 255, 3, 17}[next(6)], numberOf("sta"), addr % 256, addr / 256})
			case 1:
				at += copy(bank[at:], []int{[]int{2, 14, 29, 2}[next(4)], addr % 256, addr / 256})
			case 2:
				at += copy(bank[at:], []int{[]int{3, 15}[next(2)], addr % 256, addr / 256})
			default:
				op := numberOf(names[next(len(names))])
				at += copy(bank[at:], []int{op, next(256)}[:lenOf(op)])
			}
		}
		return at
	}
	m := impl.Image{Banks: [][]int{make([]int, 256), make([]int, 256)}}
	fill(m.Banks[0], 0, 256)
	bank := m.Banks[1]
	copy(bank, []int{numberOf("cli"), numberOf("ldi"), 129 + next(120), numberOf("sta"), 0, 32, numberOf("sta"), 2, 64, numberOf("sta"), 1, 64})
	copy(bank[fill(bank, 12, 120):], []int{numberOf("jmp"), 12, 192})
	bank[fill(bank, 128, 150)] = numberOf("rti")
	bank[fill(bank, 170, 200)] = numberOf("rti")
	copy(bank[250:], []int{128, 192, 0, 192, 170, 192})
	return m
}

// TestLongRuns goes over programs step by step, over one to the end of the time, and sees that all kinds of steps were among them.
func TestLongRuns(t *testing.T) {
	entered, asked, pictures, read := 0, 0, 0, map[int]bool{}
	for seed := range 10 {
		l, ok := impl.LockNew(programOf(seed), padsOf(seed*2))
		if !ok {
			t.Fatal("no console")
		}
		run, many, done := l, 0, true
		for done && (seed == 0 || many < 700) {
			entered += one(l.Nmi)
			asked += one(!l.Nmi && l.Apu.Irq && !l.Cpu.I)
			want, wantDone := wantLockStep(l)
			l, done = impl.LockStep(l)
			if done != wantDone || !sameLock(l, want) || !impl.LockOk(l) {
				t.Fatalf("seed %d, step %d: %v, %s, want %v, %s", seed, l.Steps, done, tellLock(l), wantDone, tellLock(want))
			}
			many += one(done)
		}
		for run.Steps < many {
			before := run.Steps
			next, k := impl.LockRun(run, many-before)
			if k != min(3000, many-before) || next.Steps != before+k {
				t.Fatalf("seed %d: %d steps from %d on", seed, k, before)
			}
			run = next
		}
		checkLock(t, fmt.Sprint("seed ", seed, ": run"), run, l)
		pictures += len(l.Obs.Frames)
		for _, v := range l.Obs.Reads {
			read[v] = true
		}
	}
	if entered < 100 || asked < 20 || pictures < 500 || len(read) < 5 {
		t.Errorf("entered %d times, asked %d times, %d pictures, reads %v", entered, asked, pictures, read)
	}
}

// TestNoStepGoesAboveMaxTime: of each kind of step at each of the last times.
func TestNoStepGoesAboveMaxTime(t *testing.T) {
	for at := 20000 - 9; at <= 20000; at++ {
		start := lockAt(at)
		for op := range impl.Ops + 1 {
			arg := []int{300, 8192, 8194, 8196, 16386, 16406, 49152}[(op+at)%7]
			for kind := range 4 {
				for _, arg := range []int{8196, arg} {
					l := fetching(start, op, arg)
					l.Nmi, l.Cpu.I = kind%2 == 1, kind/2 == 0
					cycles := cyclesOf(op)
					if kind > 0 {
						cycles = 7
					}
					got, done := impl.LockStep(l)
					if done != (at+cycles <= 20000) {
						t.Fatalf("op %d, kind %d at %d: %v", op, kind, at, done)
					}
					if !done {
						checkLock(t, fmt.Sprint("op ", op, " at ", at), got, l)
						continue
					}
					if got.Ppu.T != at+cycles || got.Apu.T != at+cycles || got.Steps != l.Steps+1 {
						t.Fatalf("op %d, kind %d at %d: %s", op, kind, at, tellLock(got))
					}
					checkStep(t, "at the end", l)
				}
			}
		}
	}
}

// looping is a console that does one op again and again.
func looping(t *testing.T, text string) impl.Lock {
	t.Helper()
	bank, fault := impl.Assemble(text + "at 252\nbyte 0\nbyte 192\n")
	l, ok := impl.LockNew(impl.Image{Banks: [][]int{bank}}, nil)
	if fault != 0 || !ok {
		t.Fatal("no console")
	}
	return l
}

func checkRun(t *testing.T, l impl.Lock, n int, want impl.Lock, wantMany int) {
	t.Helper()
	was := copyOfLock(l)
	got, many := impl.LockRun(l, n)
	if many != wantMany {
		t.Fatalf("LockRun of %d: %d steps, want %d", n, many, wantMany)
	}
	checkLock(t, fmt.Sprint("LockRun of ", n), got, want)
	checkLock(t, "the argument of LockRun", l, was)
}

func TestLockRunOfEachCount(t *testing.T) {
	for _, text := range []string{"jmp 49152\n", "lda 8194\nsta 8196\njmp 49152\n"} {
		l := looping(t, text)
		for _, n := range []int{math.MinInt, math.MinInt + 1, -3000, -2, -1, 0} {
			checkRun(t, l, n, l, 0)
		}
		walked := l
		for n := 1; n <= 3000; n++ {
			walked, _ = impl.LockStep(walked)
			if n < 5 || n == 100 || n > 2997 {
				checkRun(t, l, n, walked, n)
			}
		}
		for _, n := range []int{3001, 3002, 6000, 20000, 1 << 32, math.MaxInt - 1, math.MaxInt} {
			checkRun(t, l, n, walked, 3000)
		}
	}
}

func TestLockRunOverMaxTime(t *testing.T) {
	l := looping(t, "jmp 49152\n")
	for _, e := range []struct{ n, many, t int }{{3000, 3000, 9000}, {math.MaxInt, 3000, 18000}, {3000, 666, 19998}, {3000, 0, 19998}, {1, 0, 19998}, {math.MaxInt, 0, 19998}, {0, 0, 19998}} {
		got, many := impl.LockRun(l, e.n)
		if many != e.many || got.Ppu.T != e.t || got.Apu.T != e.t || got.Steps != l.Steps+many || !impl.LockOk(got) {
			t.Fatalf("LockRun of %d: %d steps, %s", e.n, many, tellLock(got))
		}
		if many == 0 {
			checkLock(t, "LockRun of no step", got, l)
		}
		l = got
	}
	exact := lockWith(looping(t, "nop\njmp 49152\n"), func(l *impl.Lock) {
		l.Ppu, l.Apu.T, l.Obs = ppuAt(19995), 19995, obsAt(19995)
	})
	for _, n := range []int{2, 3, 3000, math.MaxInt} {
		if got, many := impl.LockRun(exact, n); many != 2 || got.Ppu.T != 20000 {
			t.Errorf("LockRun of %d: %d steps, to %d", n, many, got.Ppu.T)
		}
	}
	if got, many := impl.LockRun(exact, 1); many != 1 || got.Ppu.T != 19997 {
		t.Errorf("LockRun of 1: %d steps, to %d", many, got.Ppu.T)
	}
}

// TestARunIsARunAndThenTheRest.
func TestARunIsARunAndThenTheRest(t *testing.T) {
	l, _ := impl.LockNew(programOf(3), padsOf(5))
	whole, many := impl.LockRun(l, 700)
	for _, first := range []int{0, 1, 13, 350, 699, 700} {
		part, k := impl.LockRun(l, first)
		rest, more := impl.LockRun(part, 700-first)
		if k != first || k+more != many || many != 700 {
			t.Fatalf("%d steps, then %d", k, more)
		}
		checkLock(t, fmt.Sprint(first, " steps, and then the rest"), rest, whole)
	}
}

func TestLocksThatAreNotRight(t *testing.T) {
	addrs := append([]int{5, 8194, 8196, 16386, 16406, 20000, 32768, 65535}, -1, math.MinInt, math.MaxInt)
	for name, l := range wrongLocks() {
		was := copyOfLock(l)
		for _, addr := range addrs {
			got, v := impl.LockRead(l, addr)
			if v != 0 || !sameLock(got, was) {
				t.Fatalf("%s: LockRead at %d = %d, %s", name, addr, v, tellLock(got))
			}
			checkLock(t, name+": LockWrite", impl.LockWrite(l, addr, 1), was)
		}
		got, done := impl.LockStep(l)
		if done {
			t.Fatalf("%s: LockStep is true", name)
		}
		checkLock(t, name+": LockStep", got, impl.Lock{})
		for _, n := range []int{1, 2, 3000, 3001, math.MaxInt} {
			checkRun(t, l, n, impl.Lock{}, 0)
		}
		for _, n := range []int{0, -1, math.MinInt} {
			checkRun(t, l, n, was, 0)
		}
		checkLock(t, name+": the argument", l, was)
	}
}

// roomyRow is a list with spare room behind it; each such room goes to rooms.
func roomyRow(list []int, rooms *[][]int) []int {
	x, _ := roomyMem(list, 0)
	*rooms = append(*rooms, x.Ram[len(list):cap(x.Ram)])
	return x.Ram
}

// roomyRows has room for two more lists, which stay nil.
func roomyRows(lists [][]int, rooms *[][]int) [][]int {
	rows := make([][]int, len(lists), len(lists)+2)
	for n, list := range lists {
		rows[n] = roomyRow(list, rooms)
	}
	return rows
}

// roomyLock is a copy of a console with spare room behind all its lists, and a way to see whether that was written into.
func roomyLock(l impl.Lock) (impl.Lock, func() bool) {
	var rooms [][]int
	l.Img.Banks, l.Obs.Frames = roomyRows(l.Img.Banks, &rooms), roomyRows(l.Obs.Frames, &rooms)
	for _, list := range []*[]int{&l.Pads, &l.Mem.Ram, &l.Ppu.Table, &l.Ppu.Dots, &l.Obs.Samples, &l.Obs.Reads} {
		*list = roomyRow(*list, &rooms)
	}
	return l, func() bool {
		for _, lists := range [][][]int{l.Img.Banks, l.Obs.Frames} {
			many := len(lists)
			if lists = lists[:many+2]; lists[many] != nil || lists[many+1] != nil {
				return false
			}
		}
		for _, room := range rooms {
			if slices.Max(room) != 12345 || slices.Min(room) != 12345 {
				return false
			}
		}
		return true
	}
}

// lockAnswers are all functions that answer with a console, for one that is handed in.
func lockAnswers() map[string]func(impl.Lock) impl.Lock {
	answers := map[string]func(impl.Lock) impl.Lock{
		"LockStep": func(l impl.Lock) impl.Lock { got, _ := impl.LockStep(l); return got },
		"LockNew":  func(l impl.Lock) impl.Lock { got, _ := impl.LockNew(l.Img, l.Pads); return got },
		"LockOk":   func(l impl.Lock) impl.Lock { impl.LockOk(l); return impl.Lock{} },
	}
	for _, n := range []int{-1, 0, 1, 50} {
		answers[fmt.Sprint("LockRun ", n)] = func(l impl.Lock) impl.Lock { got, _ := impl.LockRun(l, n); return got }
	}
	for _, addr := range []int{5, 8192, 8194, 8196, 16385, 16386, 16406, 20000, 32768, 65535} {
		answers[fmt.Sprint("LockRead ", addr)] = func(l impl.Lock) impl.Lock { got, _ := impl.LockRead(l, addr); return got }
		answers[fmt.Sprint("LockWrite ", addr)] = func(l impl.Lock) impl.Lock { return impl.LockWrite(l, addr, 1) }
	}
	return answers
}

// someLocks are right ones, at each kind of time and with each kind of op, one that is over, and wrong ones.
func someLocks() map[string]impl.Lock {
	some := map[string]impl.Lock{"over": fetching(lockAt(19998), numberOf("sta"), 8196), "at the end": fetching(lockAt(20000), 0, 0)}
	for n, name := range []string{"lda", "sta", "jsr", "rti", "pha", "nop"} {
		for _, at := range []int{0, 47, 48, 49, 63, 130} {
			some[fmt.Sprint(name, " at ", at)] = fetching(lockAt(at), numberOf(name), []int{8196, 16386, 16406, 7}[(n+at)%4])
		}
	}
	some["Nmi"] = lockWith(lockAt(70), func(l *impl.Lock) { l.Nmi = true })
	some["who asks"] = lockWith(lockAt(70), func(l *impl.Lock) { l.Cpu.I = false })
	for name, l := range wrongLocks() {
		if len(name) > 4 && name[:4] != "pads" && name[:5] != "sound" {
			some[name] = l
		}
	}
	return some
}

func TestLockArgumentsStayAsTheyWere(t *testing.T) {
	answers := lockAnswers()
	for name, start := range someLocks() {
		l, clean := roomyLock(start)
		for what, answer := range answers {
			answer(l)
			if !sameLock(l, start) || !clean() {
				t.Fatalf("%s, %s: written into", what, name)
			}
		}
	}
}

// listsOf are all lists of numbers that a console has, with all their room.
func listsOf(l impl.Lock) [][]int {
	lists := [][]int{l.Pads, l.Mem.Ram, l.Ppu.Table, l.Ppu.Dots, l.Obs.Samples, l.Obs.Reads}
	lists = append(append(lists, l.Img.Banks...), l.Obs.Frames...)
	for n, list := range lists {
		lists[n] = list[:cap(list)]
	}
	return lists
}

// checkApart: each list is filled with a number of its own, and has that still when all are.
func checkApart(t *testing.T, what string, lists [][]int) {
	t.Helper()
	for n, list := range lists {
		spoil(list, -100-n)
	}
	for n, list := range lists {
		if slices.ContainsFunc(list, func(v int) bool { return v != -100-n }) {
			t.Fatalf("%s: list %d shares its room with another one", what, n)
		}
	}
}

func checkNewLock(t *testing.T, what string, start impl.Lock, answer func(impl.Lock) impl.Lock) {
	t.Helper()
	l, _ := roomyLock(start)
	got, again := answer(l), answer(l)
	want := copyOfLock(again)
	checkLock(t, what+": once more", got, want)
	checkApart(t, what, listsOf(got))
	for _, rows := range [][][]int{got.Img.Banks, got.Obs.Frames} {
		clear(rows[:cap(rows)])
	}
	checkLock(t, what+": the argument", l, start)
	for _, list := range listsOf(l) {
		spoil(list, -9)
	}
	clear(l.Img.Banks)
	clear(l.Obs.Frames)
	checkLock(t, what+": another answer", again, want)
}

func TestLockAnswersAreNewMemory(t *testing.T) {
	answers := lockAnswers()
	for name, l := range someLocks() {
		for what, answer := range answers {
			checkNewLock(t, what+", "+name, l, answer)
		}
	}
}

// sharing is a console whose lists lie in each other's rooms, as far as their numbers let them.
func sharing() impl.Lock {
	l := fetching(lockAt(150), numberOf("sta"), 8196)
	bank := l.Img.Banks[0]
	l.Img.Banks[1], l.Img.Banks[2] = bank, bank
	l.Pads = bank[:10]
	room := slices.Repeat([]int{9}, 400)
	l.Ppu.Table, l.Ppu.Dots, l.Obs.Samples, l.Obs.Reads = room[:16], room[:22], room[5:14], room[:100]
	l.Obs.Frames[0], l.Obs.Frames[1] = room[:48], room[:48]
	return l
}

func TestLockListsThatShareOneRoom(t *testing.T) {
	for what, answer := range lockAnswers() {
		apart := answer(copyOfLock(sharing()))
		l := sharing()
		got := answer(l)
		checkLock(t, what, got, apart)
		checkLock(t, what+": the argument", l, sharing())
		checkApart(t, what, listsOf(got))
	}
}
