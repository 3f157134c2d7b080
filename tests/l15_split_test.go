package tests

import (
	"fmt"
	"math"
	"runtime"
	"slices"
	"sync"
	"testing"

	"loop.example/g00231/impl"
)

var (
	allBeats  = beatsBy(20000)
	allBlanks = blanksBy(20000)
)

// splitAt is a right console apart at a time, whose units are caught up. What the processor last told for Ctrl
// is not what the picture unit has, and the sound unit asks where that is not known: so no one is taken for the other.
func splitAt(t int) impl.Split {
	return impl.Split{
		Img: imageOf(3), Pads: padsOf(3), Mem: fullMem(1),
		Cpu: impl.Cpu{A: 201, X: 3, S: 100, Pc: 40, C: true, I: true},
		Pad: impl.Pad{Shift: 173}, T: t, Ctrl: 90, KnownAt: t, Steps: t / 7,
		Reads: []int{7, -5, math.MaxInt}, Picture: pictureAt(t), Sound: soundAt(t),
	}
}

func copyOfSplit(s impl.Split) impl.Split {
	s.Img, s.Pads, s.Mem, s.Reads = copyImage(s.Img), slices.Clone(s.Pads), copyOfMem(s.Mem), slices.Clone(s.Reads)
	s.Picture, s.Sound = copyOfPicture(s.Picture), copyOfSound(s.Sound)
	return s
}

func splitWith(s impl.Split, change func(*impl.Split)) impl.Split {
	s = copyOfSplit(s)
	change(&s)
	return s
}

// doing is a console whose processor fetches that op.
func doing(s impl.Split, name string, arg int) impl.Split {
	return fetchingApart(s, numberOf(name), arg)
}

func fetchingApart(s impl.Split, op int, arg int) impl.Split {
	return splitWith(s, func(s *impl.Split) {
		s.Cpu.Pc = 40
		copy(s.Mem.Ram[40:], []int{op, leftBy(arg, 256), leftBy(arg, 65536) / 256})
	})
}

func sameSplit(a, b impl.Split) bool {
	return sameImage(a.Img, b.Img) && slices.Equal(a.Pads, b.Pads) && sameMem(a.Mem, b.Mem) && a.Cpu == b.Cpu &&
		a.Pad == b.Pad && a.T == b.T && a.Nmi == b.Nmi && a.Ctrl == b.Ctrl && a.Known == b.Known && a.KnownAt == b.KnownAt &&
		a.Steps == b.Steps && slices.Equal(a.Reads, b.Reads) && samePicture(a.Picture, b.Picture) && sameSound(a.Sound, b.Sound)
}

// tellSplit is a console without its image and its pictures, for a failure's text.
func tellSplit(s impl.Split) string {
	return fmt.Sprintf("{%d banks, pads %v, Mem %v, %+v, %+v, T %d, Nmi %v, Ctrl %d, Known %v at %d, Steps %d, reads %v, picture %+v %+v with %d, sound %+v %+v with %d}",
		len(s.Img.Banks), s.Pads, s.Mem, s.Cpu, s.Pad, s.T, s.Nmi, s.Ctrl, s.Known, s.KnownAt, s.Steps, s.Reads,
		s.Picture.Ppu, s.Picture.Ring, len(s.Picture.Frames), s.Sound.Apu, s.Sound.Ring, len(s.Sound.Samples))
}

func checkSplit(t *testing.T, what string, got, want impl.Split) {
	t.Helper()
	if !sameSplit(got, want) {
		t.Fatalf("%s:\n%s, want\n%s", what, tellSplit(got), tellSplit(want))
	}
}

func isThere(s impl.Split, t int, r impl.Ring) bool { return t == s.T && len(r.List) == 0 }

// wantWait is for a right console.
func wantWait(s impl.Split) int {
	need := func(so bool, why int, cycles int) int {
		switch {
		case so:
			return why
		case s.T+cycles > 20000:
			return 5
		}
		return 0
	}
	beat, soundThere := wantBeatIn(allBeats, s.KnownAt, s.T), isThere(s, s.Sound.Apu.T, s.Sound.Ring)
	switch {
	case s.Nmi:
		return need(false, 0, 7)
	case !s.Cpu.I && beat && !soundThere:
		return 2
	case !s.Cpu.I && (beat && s.Sound.Apu.Irq || !beat && s.Known):
		return need(false, 0, 7)
	}
	i := wantFetch(s.Img, s.Mem, s.Cpu.Pc)
	kind, at, _ := wantAccess(i, s.Cpu)
	region, _ := wantRegion(at)
	switch cycles := cyclesOf(i.Op); 10*kind + region {
	case 12:
		return need(!isThere(s, s.Picture.Ppu.T, s.Picture.Ring), 1, cycles)
	case 13:
		return need(!soundThere, 2, cycles)
	case 22:
		return need(len(s.Picture.Ring.List) == s.Picture.Ring.Cap, 3, cycles)
	case 23:
		return need(len(s.Sound.Ring.List) == s.Sound.Ring.Cap, 4, cycles)
	default:
		return need(false, 0, cycles)
	}
}

// wantReading is what a read turns, and what is read, of a console whose units are there as far as they are read.
func wantReading(w *impl.Split, addr int) int {
	v := 0
	switch region, part := wantRegion(addr); region {
	case impl.RgPicture:
		w.Picture.Ppu, v = wantRead(w.Picture.Ppu, part)
	case impl.RgSound:
		w.Sound.Apu, v = wantApuRead(w.Sound.Apu, part)
		if part == 2 {
			w.Known, w.KnownAt = false, w.T
		}
	default:
		var l impl.Lock
		l, v = wantLockRead(impl.Lock{Img: w.Img, Pads: w.Pads, Mem: w.Mem, Pad: w.Pad, Ppu: impl.Ppu{T: w.T}}, addr)
		w.Pad = l.Pad
		if region != impl.RgPad {
			return v
		}
	}
	w.Reads = append(w.Reads, v)
	return v
}

func wantWriting(w *impl.Split, addr int, v int) {
	region, part := wantRegion(addr)
	x := impl.Rec{T: w.T, Reg: part, V: v}
	switch region {
	case impl.RgPicture:
		w.Picture.Ring.List = append(w.Picture.Ring.List, x)
		if part == 0 {
			w.Ctrl = v
		}
	case impl.RgSound:
		w.Sound.Ring.List = append(w.Sound.Ring.List, x)
		if part == 3 || part == 2 && v%2 == 0 {
			w.Known, w.KnownAt = false, w.T
		}
	default:
		l := wantLockWrite(impl.Lock{Img: w.Img, Pads: w.Pads, Mem: w.Mem, Pad: w.Pad, Ppu: impl.Ppu{T: w.T}}, addr, v)
		w.Mem, w.Pad = l.Mem, l.Pad
	}
}

// wantCpuStep is for a right console.
func wantCpuStep(s impl.Split) (impl.Split, bool) {
	w := copyOfSplit(s)
	if wantWait(s) != 0 {
		return w, false
	}
	cycles := 7
	if !s.Nmi && !s.Cpu.I && wantBeatIn(allBeats, s.KnownAt, s.T) {
		w.Known, w.KnownAt = s.Sound.Apu.Irq, s.T
	}
	switch {
	case s.Nmi:
		w.Mem, w.Cpu = wantEnter(s.Img, s.Mem, s.Cpu, 65530, true)
	case w.Known && !s.Cpu.I:
		w.Mem, w.Cpu = wantEnter(s.Img, s.Mem, s.Cpu, 65534, true)
	default:
		i, v := wantFetch(s.Img, s.Mem, s.Cpu.Pc), 0
		switch kind, at, put := wantAccess(i, s.Cpu); kind {
		case 1:
			v = wantReading(&w, at)
		case 2:
			wantWriting(&w, at, put)
		}
		w.Mem, w.Cpu = wantExec(w.Mem, w.Cpu, i, v)
		cycles = cyclesOf(i.Op)
	}
	w.T, w.Steps = s.T+cycles, s.Steps+1
	w.Nmi = w.Ctrl > 127 && wantBlankIn(allBlanks, s.T, w.T)
	return w, true
}

// checkCpuStep is P15 of one console that is right: it goes on just if Wait is WtNone, else it is as it was.
// It sees too that what was handed in is as it was, and that what comes is right.
func checkCpuStep(t *testing.T, what string, s impl.Split) (impl.Split, bool) {
	t.Helper()
	if !impl.SplitOk(s) {
		t.Fatalf("%s: not right: %s", what, tellSplit(s))
	}
	was := copyOfSplit(s)
	wait := impl.Wait(s)
	if want := wantWait(s); wait != want {
		t.Fatalf("%s: Wait is %d, want %d, of %s", what, wait, want, tellSplit(s))
	}
	got, done := impl.CpuStep(s)
	if done != (wait == impl.WtNone) {
		t.Fatalf("%s: Wait is %d, CpuStep %v, of %s", what, wait, done, tellSplit(s))
	}
	if !done {
		checkSplit(t, what+": as it was", got, was)
	}
	want, _ := wantCpuStep(s)
	checkSplit(t, what, got, want)
	checkSplit(t, what+": the argument", s, was)
	if !impl.SplitOk(got) {
		t.Fatalf("%s: not right behind the step: %s", what, tellSplit(got))
	}
	return got, done
}

// mustWait: it waits for that, and goes on just if that is nothing.
func mustWait(t *testing.T, what string, s impl.Split, want int) impl.Split {
	t.Helper()
	if got := impl.Wait(s); got != want {
		t.Fatalf("%s: Wait is %d, want %d, of %s", what, got, want, tellSplit(s))
	}
	got, _ := checkCpuStep(t, what, s)
	return got
}

func TestSplitConstants(t *testing.T) {
	codes := []int{impl.WtNone, impl.WtPicture, impl.WtSound, impl.WtPictureRoom, impl.WtSoundRoom, impl.WtOver, impl.WtBad}
	if !slices.Equal(codes, []int{0, 1, 2, 3, 4, 5, 6}) {
		t.Error("codes", codes)
	}
}

func TestSplitNew(t *testing.T) {
	for n := 1; n <= impl.MaxBanks; n++ {
		m := imageOf(n)
		last := m.Banks[n-1]
		for k, pads := range rightPads() {
			for _, cap := range []int{1, 2, 15, 16, 1 + (n+k)%16} {
				s, ok := impl.SplitNew(m, pads, cap)
				want := impl.Split{
					Img: m, Pads: pads, Mem: impl.Mem{Ram: make([]int, 512)},
					Cpu:     impl.Cpu{S: 255, I: true, Pc: last[252] + 256*last[253]},
					Picture: impl.Picture{Ppu: impl.Ppu{Table: make([]int, 16)}, Ring: impl.Ring{Cap: cap}},
					Sound:   impl.Sound{Ring: impl.Ring{Cap: cap}},
				}
				if !ok || !impl.SplitOk(s) {
					t.Fatalf("SplitNew with %d banks, pads %v and rings of %d is %v", n, pads, cap, ok)
				}
				checkSplit(t, "SplitNew", s, want)
				checkCpuStep(t, "the first step", s)
			}
		}
	}
}

func TestSplitNewOfWhatIsNone(t *testing.T) {
	check := func(m impl.Image, pads []int, cap int) {
		t.Helper()
		s, ok := impl.SplitNew(m, pads, cap)
		if ok {
			t.Fatalf("SplitNew of %d banks, pads %v and rings of %d is true", len(m.Banks), pads, cap)
		}
		checkSplit(t, "SplitNew", s, impl.Split{})
	}
	for _, cap := range noCaps {
		check(imageOf(1), nil, cap)
		check(imageOf(8), padsOf(20), cap)
		check(impl.Image{}, padsOf(21), cap)
	}
	for _, cap := range []int{1, 7, 16} {
		for _, m := range wrongImages() {
			check(m, nil, cap)
			check(m, padsOf(20), cap)
		}
		for _, pads := range wrongPads() {
			check(imageOf(1), pads, cap)
			check(imageOf(8), pads, cap)
		}
	}
}

func checkSplitOk(t *testing.T, what string, s impl.Split, want bool) {
	t.Helper()
	if got := impl.SplitOk(s); got != want {
		t.Fatalf("%s: SplitOk is %v of %s", what, got, tellSplit(s))
	}
}

// splitBehind has its units that far behind, each with rings of that cap.
func splitBehind(t, picture, sound, cap int) impl.Split {
	s := splitAt(t)
	s.Picture, s.Sound = pictureAt(t-picture), soundAt(t-sound)
	s.Picture.Ring.Cap, s.Sound.Ring.Cap = cap, cap
	return s
}

func TestSplitOkOfRightOnes(t *testing.T) {
	for at := range 260 {
		checkSplitOk(t, "caught up", splitAt(at), true)
		checkSplitOk(t, "both at 0", splitBehind(at, at, at, 1), true)
		checkSplitOk(t, "both behind", splitBehind(at, at/2, at/3, 16), true)
	}
	for _, at := range []int{0, 1, 48, 84, 1000, 19999, 20000} {
		s := splitAt(at)
		for _, pads := range rightPads() {
			checkSplitOk(t, "pads", splitWith(s, func(s *impl.Split) { s.Pads = pads }), true)
		}
		for kind := range 16 {
			checkSplitOk(t, "flags", splitWith(s, func(s *impl.Split) {
				s.Nmi, s.Known, s.Pad.Held, s.Cpu.I = kind%2 == 0, kind/2%2 == 0, kind/4%2 == 0, kind/8 == 0
			}), true)
		}
		for _, reads := range [][]int{nil, {}, {math.MinInt, math.MaxInt, -1, 256}, make([]int, 30000)} {
			checkSplitOk(t, "reads", splitWith(s, func(s *impl.Split) { s.Reads = reads }), true)
		}
	}
}

// TestSplitOkAtEachLimit: of each number that the chapter bounds, what is at the bound and what is one beyond it.
func TestSplitOkAtEachLimit(t *testing.T) {
	for _, at := range []int{0, 1, 2, 48, 84, 19999, 20000} {
		for _, f := range []struct {
			name     string
			of       func(*impl.Split) *int
			greatest int
		}{
			{"Shift", func(s *impl.Split) *int { return &s.Pad.Shift }, 255},
			{"Ctrl", func(s *impl.Split) *int { return &s.Ctrl }, 255},
			{"KnownAt", func(s *impl.Split) *int { return &s.KnownAt }, at},
			{"Steps", func(s *impl.Split) *int { return &s.Steps }, at},
			{"A", func(s *impl.Split) *int { return &s.Cpu.A }, 255},
			{"X", func(s *impl.Split) *int { return &s.Cpu.X }, 255},
			{"S", func(s *impl.Split) *int { return &s.Cpu.S }, 255},
			{"Pc", func(s *impl.Split) *int { return &s.Cpu.Pc }, 65535},
			{"Bank", func(s *impl.Split) *int { return &s.Mem.Bank }, 2},
		} {
			for _, v := range []int{math.MinInt, -256, -1, 0, 1, f.greatest - 1, f.greatest, f.greatest + 1, f.greatest + 256, 1 << 32, math.MaxInt} {
				s := splitWith(splitAt(at), func(s *impl.Split) { *f.of(s) = v })
				checkSplitOk(t, fmt.Sprint(f.name, " ", v, " at ", at), s, v >= 0 && v <= f.greatest)
			}
		}
	}
	for _, v := range []int{math.MinInt, math.MinInt + 1, -20000, -1, 0, 1, 83, 84, 85, 19999, 20000, 20001, 20002, 1 << 32, math.MaxInt - 7, math.MaxInt} {
		s := splitWith(splitBehind(0, 0, 0, 4), func(s *impl.Split) { s.T = v })
		checkSplitOk(t, fmt.Sprint("T ", v), s, v >= 0 && v <= 20000)
		s = splitWith(splitAt(84), func(s *impl.Split) { s.T, s.KnownAt, s.Steps = v, 0, 0 })
		checkSplitOk(t, fmt.Sprint("T, with units at 84, ", v), s, v >= 84 && v <= 20000)
	}
}

// TestNoUnitIsAheadOfTheProcessor, each by itself, and no record either, wherever it stands in its ring.
func TestNoUnitIsAheadOfTheProcessor(t *testing.T) {
	for _, at := range []int{0, 1, 47, 48, 84, 300, 19999, 20000} {
		for _, unit := range []int{0, 1, at - 1, at, at + 1, at + 2, at + 64} {
			if unit < 0 || unit > 20000 {
				continue
			}
			checkSplitOk(t, fmt.Sprint("a picture unit at ", unit), splitWith(splitAt(at), func(s *impl.Split) { s.Picture = pictureAt(unit) }), unit <= at)
			checkSplitOk(t, fmt.Sprint("a sound unit at ", unit), splitWith(splitAt(at), func(s *impl.Split) { s.Sound = soundAt(unit) }), unit <= at)
		}
		for _, times := range [][]int{{at}, {at + 1}, {0, at}, {0, at + 1}, {at, at, at}, {at, at, at + 1}, {at, at + 1, at + 1}, {20000}, slices.Repeat([]int{at}, 16), append(slices.Repeat([]int{at}, 15), at+1)} {
			want := slices.Max(times) <= at
			list := recsAt(times...)
			if slices.Max(times) > 20000 {
				continue
			}
			checkSplitOk(t, fmt.Sprint("picture records of ", times, " at ", at), splitWith(splitAt(at), func(s *impl.Split) { s.Picture = pictureAt(0, list...) }), want)
			checkSplitOk(t, fmt.Sprint("sound records of ", times, " at ", at), splitWith(splitAt(at), func(s *impl.Split) { s.Sound = soundAt(0, list...) }), want)
		}
	}
}

// wrongSplits are consoles that are not SplitOk, each by one of the chapter's conditions.
func wrongSplits() map[string]impl.Split {
	wrong := map[string]impl.Split{"zero": {}}
	const now = 64 + 20
	add := func(name string, change func(*impl.Split)) { wrong[name] = splitWith(splitAt(now), change) }
	for name, l := range wrongLocks() { // those of what both kinds of consoles have
		if name == "the picture unit one cycle behind" || name == "T of the sound unit 83" {
			continue // apart that is right
		}
		add("in step: "+name, func(s *impl.Split) {
			s.Img, s.Pads, s.Mem, s.Cpu, s.Pad.Shift = l.Img, l.Pads, l.Mem, l.Cpu, l.Pad.Shift
			s.Picture.Ppu, s.Picture.Frames, s.Sound.Apu, s.Sound.Samples = l.Ppu, l.Obs.Frames, l.Apu, l.Obs.Samples
			s.Steps = l.Steps
		})
	}
	for n, r := range wrongRings() {
		if n%9 == 0 || len(r.List) < 2 {
			add(fmt.Sprint("picture ring ", n), func(s *impl.Split) { s.T, s.Picture.Ring = 20000, r })
			add(fmt.Sprint("sound ring ", n), func(s *impl.Split) { s.T, s.Sound.Ring = 20000, r })
		}
	}
	for _, v := range []int{math.MinInt, -1, now + 1, math.MaxInt} {
		add(fmt.Sprint("KnownAt ", v), func(s *impl.Split) { s.KnownAt = v })
		add(fmt.Sprint("Steps ", v), func(s *impl.Split) { s.Steps = v })
	}
	for _, v := range []int{math.MinInt, -1, 256, math.MaxInt} {
		add(fmt.Sprint("Ctrl ", v), func(s *impl.Split) { s.Ctrl = v })
		add(fmt.Sprint("Shift ", v), func(s *impl.Split) { s.Pad.Shift = v })
	}
	for _, v := range []int{math.MinInt, math.MinInt + 7, -1, 0, now - 1, 20001, math.MaxInt - 7, math.MaxInt} {
		add(fmt.Sprint("T ", v), func(s *impl.Split) { s.T, s.KnownAt, s.Steps = v, 0, 0 })
	}
	add("a picture unit ahead", func(s *impl.Split) { s.Picture = pictureAt(now + 1) })
	add("a sound unit ahead", func(s *impl.Split) { s.Sound = soundAt(now + 1) })
	add("a picture record ahead", func(s *impl.Split) { s.Picture = pictureAt(now, recsAt(now, now+1)...) })
	add("a sound record ahead", func(s *impl.Split) { s.Sound = soundAt(now, recsAt(now, now+1)...) })
	add("a picture record behind", func(s *impl.Split) { s.Picture = pictureAt(now, recsAt(now-1, now)...) })
	add("a sound record behind", func(s *impl.Split) { s.Sound = soundAt(now, recsAt(now-1, now)...) })
	add("a picture too few", func(s *impl.Split) { s.Picture.Frames = nil })
	add("a sample too many", func(s *impl.Split) { s.Sound.Samples = append(s.Sound.Samples, 8) })
	return wrong
}

// TestSplitsThatAreNotRight: WtBad is ahead of all that could be waited for, and CpuStep is zero and false.
func TestSplitsThatAreNotRight(t *testing.T) {
	wrong := wrongSplits()
	if len(wrong) < 150 {
		t.Fatalf("only %d", len(wrong))
	}
	for name, start := range wrong {
		for kind := range 4 {
			s := splitWith(start, func(s *impl.Split) { s.Nmi, s.Cpu.I = kind%2 == 0, kind/2 == 0 })
			was := copyOfSplit(s)
			checkSplitOk(t, name, s, false)
			if got := impl.Wait(s); got != impl.WtBad {
				t.Fatalf("%s: Wait is %d", name, got)
			}
			got, done := impl.CpuStep(s)
			if done {
				t.Fatalf("%s: CpuStep is true", name)
			}
			checkSplit(t, name+": CpuStep", got, impl.Split{})
			checkSplit(t, name+": the argument", s, was)
		}
	}
}

// numbersOfSplit are all numbers that the chapter asks something of, one by one.
func numbersOfSplit(s *impl.Split) map[string]*int {
	p, a, q, r := &s.Picture.Ppu, &s.Sound.Apu, &s.Picture.Ring, &s.Sound.Ring
	return map[string]*int{
		"T": &s.T, "Ctrl": &s.Ctrl, "KnownAt": &s.KnownAt, "Steps": &s.Steps, "Shift": &s.Pad.Shift, "Bank": &s.Mem.Bank,
		"A": &s.Cpu.A, "X": &s.Cpu.X, "S": &s.Cpu.S, "Pc": &s.Cpu.Pc,
		"pads": &s.Pads[1], "ram": &s.Mem.Ram[40], "the stack": &s.Mem.Ram[511], "bank": &s.Img.Banks[1][0], "the last bank": &s.Img.Banks[2][255],
		"picture T": &p.T, "picture Ctrl": &p.Ctrl, "Scroll": &p.Scroll, "Addr": &p.Addr, "Pal": &p.Pal, "Table": &p.Table[15], "Dots": &p.Dots[0],
		"sound T": &a.T, "Period": &a.Period, "Count": &a.Count, "Bit": &a.Bit, "Length": &a.Length,
		"picture Cap": &q.Cap, "sound Cap": &r.Cap,
		"picture record T": &q.List[0].T, "picture record Reg": &q.List[0].Reg, "picture record V": &q.List[0].V,
		"sound record T": &r.List[0].T, "sound record Reg": &r.List[0].Reg, "sound record V": &r.List[0].V,
	}
}

// TestSplitsWithTheLeastAndTheGreatestInt, in every number by itself, and in all at once.
func TestSplitsWithTheLeastAndTheGreatestInt(t *testing.T) {
	start := func() impl.Split {
		s := splitAt(84)
		s.Picture, s.Sound = pictureAt(84, recsAt(84)...), soundAt(84, recsAt(84)...)
		return s
	}
	right := start()
	checkSplitOk(t, "as it is", right, true)
	for _, v := range []int{math.MinInt, math.MinInt + 1, math.MaxInt - 1, math.MaxInt} {
		all := start()
		for name := range numbersOfSplit(&right) {
			s := start()
			*numbersOfSplit(&s)[name] = v
			*numbersOfSplit(&all)[name] = v
			if got, done := impl.CpuStep(s); impl.SplitOk(s) || impl.Wait(s) != impl.WtBad || done || !sameSplit(got, impl.Split{}) {
				t.Fatalf("%s %d: SplitOk %v, Wait %d, CpuStep %v", name, v, impl.SplitOk(s), impl.Wait(s), done)
			}
		}
		if got, done := impl.CpuStep(all); impl.SplitOk(all) || impl.Wait(all) != impl.WtBad || done || !sameSplit(got, impl.Split{}) {
			t.Fatalf("all %d: right", v)
		}
		free := start()
		free.Reads[0], free.Picture.Frames[0][5], free.Sound.Samples[1] = v, v, v
		checkCpuStep(t, "what was read, seen and heard", free)
		if got, ok := impl.SplitNew(imageOf(1), []int{v}, 4); ok || !sameSplit(got, impl.Split{}) {
			t.Fatalf("SplitNew with %d pressed", v)
		}
	}
}

// TestWaitForAUnit: a read of a unit waits for that one to be caught up: for its time and for its ring, each by itself, and
// for nothing of the other one. What is waited for is there, once the unit is caught up by its own function.
func TestWaitForAUnit(t *testing.T) {
	for _, at := range []int{1, 47, 48, 49, 64, 84, 300} {
		for part := range 8 {
			for _, name := range []string{"lda", "lax", "ada"} {
				s := doing(splitAt(at), name, 8192+part)
				s.Cpu.X = 0
				s.Picture.Ring.Cap, s.Sound = 1, soundAt(at/2, recsAt(at)...)
				mustWait(t, "caught up", s, impl.WtNone)
				for what, w := range map[string]impl.Picture{
					"one cycle behind": pictureAt(at - 1), "at 0": pictureAt(0), "one record": pictureAt(at, recsAt(at)...),
					"many records": pictureAt(at, recsAt(slices.Repeat([]int{at}, 16)...)...), "behind, with records": pictureAt(at-1, recsAt(at-1, at)...),
				} {
					s := splitWith(s, func(s *impl.Split) { s.Picture = w })
					mustWait(t, what, s, impl.WtPicture)
					s.Picture = impl.PictureCatch(s.Picture, s.T)
					mustWait(t, what+", caught up", s, impl.WtNone)
				}
			}
		}
		for part := range 4 {
			for _, name := range []string{"lda", "lax", "ada"} {
				s := doing(splitAt(at), name, 16384+part)
				s.Cpu.X = 0
				s.Sound.Ring.Cap, s.Picture = 1, pictureAt(at/2, recsAt(at)...)
				mustWait(t, "caught up", s, impl.WtNone)
				for what, w := range map[string]impl.Sound{
					"one cycle behind": soundAt(at - 1), "at 0": soundAt(0), "one record": soundAt(at, recsAt(at)...),
					"many records": soundAt(at, recsAt(slices.Repeat([]int{at}, 16)...)...), "behind, with records": soundAt(at-1, recsAt(at-1, at)...),
				} {
					s := splitWith(s, func(s *impl.Split) { s.Sound = w })
					mustWait(t, what, s, impl.WtSound)
					s.Sound = impl.SoundCatch(s.Sound, s.T)
					mustWait(t, what+", caught up", s, impl.WtNone)
				}
			}
		}
	}
}

// TestWaitForRoom: a write to a unit waits only for room in that unit's ring: with as many as Cap, and not with one less.
func TestWaitForRoom(t *testing.T) {
	for cap := 1; cap <= 16; cap++ {
		for many := range cap + 1 {
			list := recsAt(slices.Repeat([]int{84}, many)...)
			for part := range 8 {
				want := []int{impl.WtNone, impl.WtPictureRoom}[one(many == cap)]
				s := doing(splitBehind(84, 10, 20, cap), []string{"sta", "sax"}[part%2], 8192+part*9%8+8*part)
				s.Picture.Ring.List, s.Sound.Ring.List = list, recsAt(slices.Repeat([]int{84}, cap)...)
				got := mustWait(t, fmt.Sprint(many, " picture records of ", cap), s, want)
				if len(got.Picture.Ring.List) != min(many+1, cap) || len(got.Sound.Ring.List) != cap {
					t.Fatalf("%d of %d: %+v", many, cap, got.Picture.Ring)
				}
				s.Picture, _ = impl.PictureStep(impl.PictureCatch(s.Picture, 83), 84)
				if s.Picture, _ = impl.PictureStep(s.Picture, 84); many > 0 && len(s.Picture.Ring.List) != many-1 {
					t.Fatalf("not one taken: %+v", s.Picture.Ring)
				}
				mustWait(t, "one is taken", s, impl.WtNone)
			}
			for part := range 4 {
				want := []int{impl.WtNone, impl.WtSoundRoom}[one(many == cap)]
				s := doing(splitBehind(84, 10, 20, cap), "sta", 16384+part)
				s.Sound.Ring.List, s.Picture.Ring.List = list, recsAt(slices.Repeat([]int{84}, cap)...)
				got := mustWait(t, fmt.Sprint(many, " sound records of ", cap), s, want)
				if len(got.Sound.Ring.List) != min(many+1, cap) || len(got.Picture.Ring.List) != cap {
					t.Fatalf("%d of %d: %+v", many, cap, got.Sound.Ring)
				}
				s.Sound = impl.SoundCatch(s.Sound, 84)
				mustWait(t, "all are taken", s, impl.WtNone)
			}
		}
	}
}

// TestNothingIsWaitedForOfWhatIsNoUnit, nor by an op that reaches nothing, wherever the units are.
func TestNothingIsWaitedForOfWhatIsNoUnit(t *testing.T) {
	for _, at := range []int{84, 300} {
		s := splitBehind(at, 50, 60, 1)
		s.Picture.Ring.List, s.Sound.Ring.List = recsAt(at), recsAt(at)
		for op := range impl.Ops + 3 {
			for _, arg := range []int{5, 8191, 16388, 16405, 16406, 16407, 32767, 32768, 49152, 65532} {
				s := fetchingApart(s, op, arg)
				s.Cpu.X = 0
				mustWait(t, fmt.Sprint("op ", op, " with ", arg), s, impl.WtNone)
			}
			for _, arg := range []int{8192, 16384} {
				s := fetchingApart(s, op, arg)
				want := map[int]int{10: impl.WtPicture, 11: impl.WtSound, 20: impl.WtPictureRoom, 21: impl.WtSoundRoom}[10*impl.OpAccess(op)+one(arg == 16384)]
				s.Cpu.X = 0
				mustWait(t, fmt.Sprint("op ", op, " with ", arg), s, want)
			}
		}
	}
}

// TestWaitIsOver: T just at MaxTime is none, one above it is; by the cycles of each op, and by 7 of what is entered.
func TestWaitIsOver(t *testing.T) {
	for at := 20000 - 9; at <= 20000; at++ {
		start := splitAt(at)
		for op := range impl.Ops + 1 {
			want := []int{impl.WtNone, impl.WtOver}[one(at+cyclesOf(op) > 20000)]
			for _, arg := range []int{300, 8196, 16385, 16406} {
				mustWait(t, fmt.Sprint("op ", op, " at ", at), fetchingApart(start, op, arg), want)
			}
			want = []int{impl.WtNone, impl.WtOver}[one(at > 19993)]
			for kind := range 3 {
				s := fetchingApart(start, op, 300)
				switch kind {
				case 0:
					s.Nmi = true
				case 1:
					s.Cpu.I, s.Known = false, true
				case 2:
					s.Cpu.I, s.KnownAt = false, 100
				}
				got := mustWait(t, fmt.Sprint("entered, kind ", kind, " at ", at), s, want)
				if want == impl.WtNone && got.T != at+7 {
					t.Fatalf("entered at %d, it is %d", at, got.T)
				}
			}
		}
	}
}

// TestTheOrderOfTheReasons: each console has more than one.
func TestTheOrderOfTheReasons(t *testing.T) {
	late := func(change func(*impl.Split)) impl.Split {
		s := splitBehind(20000, 10, 10, 1)
		s.Picture.Ring.List, s.Sound.Ring.List = recsAt(20000), recsAt(20000)
		change(&s)
		return s
	}
	early := func(change func(*impl.Split)) impl.Split {
		s := splitBehind(84, 10, 10, 1)
		s.Picture.Ring.List, s.Sound.Ring.List = recsAt(84), recsAt(84)
		change(&s)
		return s
	}
	unknown := func(s *impl.Split) { s.Cpu.I, s.KnownAt = false, 50 }
	unknownNmi := func(s *impl.Split) { s.Cpu.I, s.KnownAt, s.Nmi = false, 50, true }
	known := func(s *impl.Split) { s.Cpu.I, s.Known = false, true }
	nmi := func(s *impl.Split) { s.Nmi = true }
	stays := func(*impl.Split) {}
	for _, e := range []struct {
		name   string
		make   func(func(*impl.Split)) impl.Split
		change func(*impl.Split)
		wants  [5]int // of lda 8192, lda 16386, sta 8192, sta 16386, nop
	}{
		{"Nmi", early, nmi, [5]int{}},
		{"Nmi ahead of what is not known", early, unknownNmi, [5]int{}},
		{"Nmi, over, ahead of all", late, nmi, [5]int{5, 5, 5, 5, 5}},
		{"Nmi, over, ahead of what is not known", late, unknownNmi, [5]int{5, 5, 5, 5, 5}},
		{"what is not known", early, unknown, [5]int{2, 2, 2, 2, 2}},
		{"what is not known, ahead of over", late, unknown, [5]int{2, 2, 2, 2, 2}},
		{"who asks", early, known, [5]int{}},
		{"who asks, over", late, known, [5]int{5, 5, 5, 5, 5}},
		{"the op", early, stays, [5]int{1, 2, 3, 4, 0}},
		{"the op, ahead of over", late, stays, [5]int{1, 2, 3, 4, 5}},
	} {
		for n, op := range []struct {
			name string
			arg  int
		}{{"lda", 8192}, {"lda", 16386}, {"sta", 8192}, {"sta", 16386}, {"nop", 0}} {
			mustWait(t, fmt.Sprint(e.name, ", ", op), doing(e.make(e.change), op.name, op.arg), e.wants[n])
		}
	}
}

// hearingSplit is a console that does an inx, at the time 100: behind the beat at 96, of which it may know or not.
func hearingSplit(mask, beat, known, irq bool, sound string) impl.Split {
	s := doing(splitAt(100), "inx", 0)
	s.Cpu.I, s.Known, s.KnownAt = mask, known, []int{97, 96}[one(beat)]
	switch sound {
	case "behind":
		s.Sound = soundAt(99)
	case "with a record":
		s.Sound = soundAt(100, recsAt(100)...)
	}
	s.Sound.Apu.Irq = irq
	return s
}

// TestWhatMustBeKnown: only without I, and only behind a beat, is the sound unit asked, and waited for; what it answers is known then.
func TestWhatMustBeKnown(t *testing.T) {
	irqAt := func(s impl.Split) int { return s.Img.Banks[2][254] + 256*s.Img.Banks[2][255] }
	for kind := range 16 {
		mask, beat, known, irq := kind%2 == 1, kind/2%2 == 1, kind/4%2 == 1, kind/8 == 1
		for _, sound := range []string{"there", "behind", "with a record"} {
			what := fmt.Sprintf("I %v, BeatIn %v, Known %v, Irq %v, the sound unit %s", mask, beat, known, irq, sound)
			s := hearingSplit(mask, beat, known, irq, sound)
			if !mask && beat && sound != "there" {
				mustWait(t, what, s, impl.WtSound)
				continue
			}
			wantKnown, wantAt := known, s.KnownAt
			if !mask && beat {
				wantKnown, wantAt = irq, 100
			}
			wantX, wantT, wantPc := 4, 102, 41
			if !mask && wantKnown {
				wantX, wantT, wantPc = 3, 107, irqAt(s)
			}
			got := mustWait(t, what, s, impl.WtNone)
			if got.Known != wantKnown || got.KnownAt != wantAt || got.Cpu.X != wantX || got.T != wantT || got.Cpu.Pc != wantPc || !sameSound(got.Sound, s.Sound) {
				t.Fatalf("%s: %s", what, tellSplit(got))
			}
			s.Nmi = true
			got = mustWait(t, what+", Nmi", s, impl.WtNone)
			if got.Known != known || got.KnownAt != s.KnownAt || got.Nmi || got.T != 107 || !got.Cpu.I || got.Cpu.Pc == irqAt(s) {
				t.Fatalf("%s, Nmi: %s", what, tellSplit(got))
			}
		}
	}
}

// TestABeatBetween: of all times at which it was last known, just those at or ahead of the last beat that is over make it wait.
func TestABeatBetween(t *testing.T) {
	for _, at := range []int{0, 1, 31, 32, 33, 34, 63, 64, 65, 100, 19967, 19968, 19969} {
		for knownAt := max(0, at-70); knownAt <= at; knownAt++ {
			for _, irq := range []bool{false, true} {
				s := doing(splitAt(at), "nop", 0)
				s.Cpu.I, s.KnownAt, s.Known, s.Sound.Apu.Irq = false, knownAt, !irq, irq
				beat := slices.ContainsFunc(allBeats, func(b int) bool { return knownAt <= b && b < at })
				got := mustWait(t, fmt.Sprint("known at ", knownAt, " at ", at), s, impl.WtNone)
				if got.Cpu.I != (irq == beat) || got.Known != (irq == beat) || got.KnownAt != []int{knownAt, at}[one(beat)] {
					t.Fatalf("known at %d, at %d: %s", knownAt, at, tellSplit(got))
				}
				if at > 0 {
					s.Sound = soundAt(at - 1)
					mustWait(t, fmt.Sprint("known at ", knownAt, ", behind at ", at), s, []int{impl.WtNone, impl.WtSound}[one(beat)])
				}
			}
		}
	}
}

// TestWhatIsKnownNoMore: behind a read of RgSound for 2, a write to it for 3, and of an even byte for 2, it is known that nobody asks.
func TestWhatIsKnownNoMore(t *testing.T) {
	check := func(what string, s impl.Split, hushed bool) {
		t.Helper()
		wantKnown, wantAt := s.Known, s.KnownAt
		if hushed {
			wantKnown, wantAt = false, s.T
		}
		if got := mustWait(t, what, s, impl.WtNone); got.Known != wantKnown || got.KnownAt != wantAt {
			t.Fatalf("%s: Known %v at %d, of %s", what, got.Known, got.KnownAt, tellSplit(s))
		}
	}
	for _, knownAt := range []int{0, 96, 97, 100} {
		for _, known := range []bool{false, true} {
			s := splitAt(100)
			s.Known, s.KnownAt = known, knownAt
			for _, addr := range unitAddrs {
				check(fmt.Sprint("lda ", addr), doing(s, "lda", addr), addr == 16386)
				s.Cpu.X = 2
				check(fmt.Sprint("lax ", addr-2), doing(s, "lax", addr-2), addr == 16386)
				for _, v := range []int{0, 1, 2, 3, 127, 128, 254, 255} {
					s.Cpu.A = v
					hushed := addr == 16387 || addr == 16386 && v%2 == 0
					check(fmt.Sprint("sta ", addr, " of ", v), doing(s, "sta", addr), hushed)
					behind := splitWith(s, func(s *impl.Split) { s.Sound, s.Picture = soundAt(30, recsAt(31, 90)...), pictureAt(0) })
					check(fmt.Sprint("sta, with units behind, ", addr, " of ", v), doing(behind, "sta", addr), hushed)
					check(fmt.Sprint("sax ", addr-2, " of ", v), doing(behind, "sax", addr-2), hushed)
				}
			}
			for op := range impl.Ops + 2 {
				if impl.OpAccess(op) == impl.AcNone {
					check(fmt.Sprint("op ", op), fetchingApart(s, op, 16387), false)
				}
			}
		}
	}
}

// TestHeardAndHushedInOneStep: without I, behind a beat, it is heard first; then the op turns what is known.
func TestHeardAndHushedInOneStep(t *testing.T) {
	s := splitAt(100)
	s.Cpu.I, s.Known, s.KnownAt, s.Sound.Apu.Irq = false, true, 50, false
	for _, e := range []struct {
		op   string
		addr int
		a    int
	}{{"nop", 0, 0}, {"lda", 16386, 0}, {"lda", 16384, 0}, {"sta", 16387, 1}, {"sta", 16386, 1}, {"sta", 16386, 2}, {"sta", 5, 2}} {
		s.Cpu.A = e.a
		if got := mustWait(t, fmt.Sprint(e), doing(s, e.op, e.addr), impl.WtNone); got.Known || got.KnownAt != 100 || got.Cpu.I {
			t.Errorf("%v: %s", e, tellSplit(got))
		}
	}
	full := doing(s, "sta", 8192)
	full.Picture = pictureAt(100, recsAt(slices.Repeat([]int{100}, 16)...)...)
	if got := mustWait(t, "heard, but without room", full, impl.WtPictureRoom); !got.Known || got.KnownAt != 50 {
		t.Errorf("what was heard is known by a step that was none: %s", tellSplit(got))
	}
}

// TestAskingByHand: a tone of one beat asks; its way back hushes it, ahead of the unit, which hears of that later.
func TestAskingByHand(t *testing.T) {
	bank, fault := impl.Assemble("ldi 1\nsta 16386\nsta 16385\ncli\ninx\njmp 49161\nat 160\nsta 16387\nrti\nat 252\nbyte 0\nbyte 192\nbyte 160\nbyte 192\n")
	s, ok := impl.SplitNew(impl.Image{Banks: [][]int{bank}}, nil, 4)
	if fault != 0 || !ok {
		t.Fatal("no console", fault)
	}
	for n, e := range []struct {
		wait, t, pc int
		known       bool
		knownAt     int
	}{
		{0, 2, 49154, false, 0}, {0, 6, 49157, false, 0}, {0, 10, 49160, false, 0}, {0, 12, 49161, false, 0}, // ldi, sta, sta, cli
		{2, 14, 49162, false, 12}, {0, 17, 49161, false, 12}, {0, 19, 49162, false, 12}, {0, 22, 49161, false, 12}, // behind the beat at 0
		{0, 24, 49162, false, 12}, {0, 27, 49161, false, 12}, {0, 29, 49162, false, 12}, {0, 32, 49161, false, 12},
		{0, 34, 49162, false, 12},                            // at 32 the beat is not over
		{2, 41, 49312, true, 34},                             // at 34 it is, and the unit asks
		{0, 45, 49315, false, 41}, {0, 51, 49162, false, 41}, // hushed, and back: the unit has not heard of it
		{0, 54, 49161, false, 41}, {0, 56, 49162, false, 41}, {0, 59, 49161, false, 41}, {0, 61, 49162, false, 41}, {0, 64, 49161, false, 41},
		{0, 66, 49162, false, 41}, {2, 69, 49161, false, 66},
	} {
		if wait := impl.Wait(s); wait != e.wait {
			t.Fatalf("step %d: Wait is %d, want %d", n, wait, e.wait)
		}
		if e.wait == impl.WtSound {
			s.Sound = impl.SoundCatch(s.Sound, s.T)
		}
		next, done := checkCpuStep(t, fmt.Sprint("step ", n), s)
		if !done || next.T != e.t || next.Cpu.Pc != e.pc || next.Known != e.known || next.KnownAt != e.knownAt || next.Steps != n+1 {
			t.Fatalf("step %d: %v, %s, want %+v", n, done, tellSplit(next), e)
		}
		if n >= 13 && n < 22 && (next.Sound.Apu != impl.Apu{T: 34, Count: 0, Bit: next.Sound.Apu.Bit, Asks: true, Irq: true}) {
			t.Fatalf("step %d: the sound unit has heard of it: %+v", n, next.Sound.Apu)
		}
		s = next
	}
	if s.Picture.Ppu.T != 0 || s.Sound.Apu.Irq {
		t.Errorf("at the end: %s", tellSplit(s))
	}
}

// TestAReadOfAUnit turns the unit, and is told in Reads; it is no record.
func TestAReadOfAUnit(t *testing.T) {
	s := splitAt(84)
	told := func(v int) []int { return []int{7, -5, math.MaxInt, v} }
	for _, e := range []struct {
		addr, v int
		change  func(*impl.Split)
	}{
		{8192, 0, func(*impl.Split) {}}, {8193, 0, func(*impl.Split) {}}, {8195, 0, func(*impl.Split) {}}, {8199, 0, func(*impl.Split) {}},
		{8194, 128, func(s *impl.Split) { s.Picture.Ppu.Blank = false }},
		{8196, 40, func(s *impl.Split) { s.Picture.Ppu.Addr = 10 }},
		{16380, 40, func(s *impl.Split) { s.Picture.Ppu.Addr = 10 }},
		{16384, 0, func(*impl.Split) {}}, {16385, 0, func(*impl.Split) {}}, {16387, 0, func(*impl.Split) {}},
		{16386, 129, func(s *impl.Split) { s.Sound.Apu.Irq = false }},
	} {
		want := splitWith(doing(s, "lda", e.addr), e.change)
		want.Reads, want.T, want.Steps, want.Cpu.Pc, want.Cpu.A = told(e.v), 88, s.Steps+1, 43, e.v
		want.Cpu.Z, want.Cpu.N = e.v == 0, e.v > 127
		want.KnownAt = 84
		checkSplit(t, fmt.Sprint("lda ", e.addr), mustWait(t, fmt.Sprint("lda ", e.addr), doing(s, "lda", e.addr), impl.WtNone), want)
	}
}

// TestAWriteToAUnit is a record of the time T at its ring's end, and turns nothing of the unit; for 0 of the picture unit it turns Ctrl.
func TestAWriteToAUnit(t *testing.T) {
	for _, behind := range []int{0, 1, 40, 84} {
		for many := range 4 {
			list := recsAt([]int{84 - behind, 84, 84}[:min(many, 3)]...)
			for part := range 8 {
				for _, v := range []int{0, 1, 127, 128, 255} {
					s := doing(splitBehind(84, behind, behind, 5), "sta", 8192+part)
					s.Cpu.A, s.Picture.Ring.List, s.Sound.Ring.List = v, list, list
					want := copyOfSplit(s)
					want.Picture.Ring.List = append(slices.Clone(list), impl.Rec{T: 84, Reg: part, V: v})
					want.T, want.Steps, want.Cpu.Pc = 88, s.Steps+1, 43
					if part == 0 {
						want.Ctrl = v
					}
					checkSplit(t, fmt.Sprint("picture ", part, " of ", v), mustWait(t, "a write", s, impl.WtNone), want)
					if part > 3 {
						continue
					}
					s.Mem.Ram[41], s.Mem.Ram[42], s.KnownAt = part, 64, 70
					want = copyOfSplit(s)
					want.Sound.Ring.List = append(slices.Clone(list), impl.Rec{T: 84, Reg: part, V: v})
					want.T, want.Steps, want.Cpu.Pc = 88, s.Steps+1, 43
					if part == 3 || part == 2 && v%2 == 0 {
						want.KnownAt = 84
					}
					checkSplit(t, fmt.Sprint("sound ", part, " of ", v), mustWait(t, "a write", s, impl.WtNone), want)
				}
			}
		}
	}
}

// lockOf is the console in step that has the parts of one apart whose units are caught up.
func lockOf(s impl.Split) impl.Lock {
	return impl.Lock{
		Img: s.Img, Pads: s.Pads, Mem: s.Mem, Cpu: s.Cpu, Ppu: s.Picture.Ppu, Apu: s.Sound.Apu, Pad: s.Pad, Nmi: s.Nmi, Steps: s.Steps,
		Obs: impl.Obs{Frames: s.Picture.Frames, Samples: s.Sound.Samples, Reads: s.Reads},
	}
}

// checkAsInStep: the processor, the memory, the pad, the time and all that was read.
func checkAsInStep(t *testing.T, what string, s impl.Split, l impl.Lock) {
	t.Helper()
	if s.Cpu != l.Cpu || !sameMem(s.Mem, l.Mem) || s.Pad != l.Pad || s.Nmi != l.Nmi || s.T != l.Ppu.T || s.Steps != l.Steps || !slices.Equal(s.Reads, l.Obs.Reads) {
		t.Fatalf("%s: apart %s, in step %s", what, tellSplit(s), tellLock(l))
	}
}

func levelled(s impl.Split) impl.Split {
	s.Picture, s.Sound = impl.PictureCatch(s.Picture, s.T), impl.SoundCatch(s.Sound, s.T)
	return s
}

// TestEachAccessIsAsInStep: of the pad, of memory, of what is open, and of the units where they are caught up.
func TestEachAccessIsAsInStep(t *testing.T) {
	for _, name := range []string{"lda", "lax", "ada", "sta", "sax"} {
		for _, arg := range unitAddrs {
			for _, at := range []int{0, 31, 44, 45, 48, 49, 63, 64, 127, 200} {
				for kind := range 8 {
					s := doing(splitAt(at), name, arg)
					s.Ctrl = s.Picture.Ppu.Ctrl
					s.Cpu.X, s.Cpu.A, s.Cpu.I = kind%3, 126+kind, kind%2 == 0
					s.Pad.Held, s.Picture.Ppu.Blank, s.Sound.Apu.Irq = kind%2 == 0, kind/2%2 == 0, kind/4 == 0
					s.Known = s.Sound.Apu.Irq
					l, done := impl.LockStep(lockOf(s))
					got := mustWait(t, fmt.Sprint(name, " ", arg, " at ", at), s, impl.WtNone)
					checkAsInStep(t, fmt.Sprint(name, " ", arg, " at ", at), got, l)
					if checkLock(t, "levelled", lockOf(levelled(got)), l); !done {
						t.Fatal("no step in step")
					}
				}
			}
		}
	}
}

func TestEachOpIsAsInStep(t *testing.T) {
	for op := range 256 {
		for n := range 6 {
			at := lockTimes[(op+n*5)%len(lockTimes)]
			s := fetchingApart(splitAt(at), op, []int{300, unitAddrs[(op+n)%len(unitAddrs)]}[n%2])
			s.Ctrl, s.Nmi, s.Known = 200, n == 4, true
			s.Cpu.I = n != 5
			l, _ := impl.LockStep(lockOf(s))
			got := mustWait(t, fmt.Sprint("op ", op, " at ", at), s, impl.WtNone)
			checkAsInStep(t, fmt.Sprint("op ", op, " at ", at), got, l)
			checkLock(t, "levelled", lockOf(levelled(got)), l)
		}
	}
}

// TestNmiBehindAStep: with Ctrl above 127, as the processor last told it, and a blank cycle from the time ahead on, ahead of T.
func TestNmiBehindAStep(t *testing.T) {
	for _, blank := range []int{48, 112, 19952} {
		for at := blank - 9; at <= blank+3; at++ {
			for _, ctrl := range []int{0, 127, 128, 255} {
				for op := range impl.Ops + 1 {
					for _, nmi := range []bool{false, true} {
						s := fetchingApart(splitAt(at), op, 300)
						s.Ctrl, s.Nmi, s.Picture.Ppu.Ctrl = ctrl, nmi, 255-ctrl
						cycles := []int{cyclesOf(op), 7}[one(nmi)]
						got, done := impl.CpuStep(s)
						if want := ctrl > 127 && at <= blank && blank < at+cycles; !done || got.Nmi != want || got.T != at+cycles || got.Steps != s.Steps+1 {
							t.Fatalf("op %d at %d with Ctrl %d, Nmi %v: %v, Nmi is %v, T %d", op, at, ctrl, nmi, done, got.Nmi, got.T)
						}
					}
				}
			}
		}
	}
	for at := 40; at < 60; at++ {
		for _, e := range []struct{ was, put int }{{0, 128}, {128, 0}, {128, 127}, {127, 255}} {
			s := doing(splitAt(at), "sta", 8192)
			s.Ctrl, s.Cpu.A = e.was, e.put
			if got := mustWait(t, "a write of Ctrl", s, impl.WtNone); got.Ctrl != e.put || got.Nmi != (e.put > 127 && at > 44 && at <= 48) {
				t.Errorf("Ctrl %d, %d put at %d: Nmi is %v", e.was, e.put, at, got.Nmi)
			}
			s.Mem.Ram[41] = 1
			if got := mustWait(t, "a write of Scroll", s, impl.WtNone); got.Ctrl != e.was || got.Nmi != (e.was > 127 && at > 44 && at <= 48) {
				t.Errorf("Ctrl %d, at %d: Nmi is %v", e.was, at, got.Nmi)
			}
		}
	}
}

// TestLevelAheadOfEachStep: then the processor, the memory, the pad and all that is read are those of the console in step, and levelled all is.
func TestLevelAheadOfEachStep(t *testing.T) {
	entered, asked := 0, 0
	for seed := range 12 {
		m, pads := programOf(seed), padsOf(seed*2%21)
		s, ok := impl.SplitNew(m, pads, 1+seed*7%16)
		l, _ := impl.LockNew(m, pads)
		if !ok {
			t.Fatal("no console")
		}
		for done := true; done && (seed == 0 || s.Steps < 600); {
			s = levelled(s)
			entered, asked = entered+one(s.Nmi), asked+one(!s.Nmi && !s.Cpu.I && s.Sound.Apu.Irq)
			s, done = checkCpuStep(t, fmt.Sprint("seed ", seed, ", step ", s.Steps), s)
			var inStep bool
			l, inStep = impl.LockStep(l)
			if done != inStep {
				t.Fatalf("seed %d, step %d: %v, in step %v", seed, s.Steps, done, inStep)
			}
			checkAsInStep(t, fmt.Sprint("seed ", seed), s, l)
		}
		checkLock(t, fmt.Sprint("seed ", seed, ", levelled"), lockOf(levelled(s)), l)
		if wait := impl.Wait(levelled(s)); seed == 0 && (wait != impl.WtOver || s.T < 19990) {
			t.Errorf("at the end it waits for %d", wait)
		}
	}
	if entered < 100 || asked < 20 {
		t.Errorf("entered %d times, asked %d times", entered, asked)
	}
}

// letRun lets one go on, by a number: the processor more often than the units, or they more often than it; a unit by a step, or caught up.
func letRun(t *testing.T, s impl.Split, who int, way int) (impl.Split, bool) {
	t.Helper()
	s = copyOfSplit(s)
	switch who % 16 {
	case 0, 1, 2:
		s.Picture, _ = impl.PictureStep(s.Picture, s.T)
	case 3, 4, 5:
		s.Sound, _ = impl.SoundStep(s.Sound, s.T)
	case 6:
		if way > 0 {
			s.Picture = impl.PictureCatch(s.Picture, s.T-who%3*5)
		}
	case 7:
		if way > 0 {
			s.Sound = impl.SoundCatch(s.Sound, s.T-who%3*5)
		}
	case 8, 9, 10:
		if way == 2 {
			return s, false
		}
		fallthrough
	default:
		return checkCpuStep(t, "let run", s)
	}
	return s, false
}

// TestP15OverManySchedules: whoever is let run, the processor goes on just if it waits for nothing, and comes to what it comes to in step.
func TestP15OverManySchedules(t *testing.T) {
	met := map[int]int{}
	for seed := range 36 {
		m, pads := programOf(seed%18), padsOf(seed%21)
		s, ok := impl.SplitNew(m, pads, []int{1, 2, 3, 5, 16}[seed%5])
		l, _ := impl.LockNew(m, pads)
		if !ok {
			t.Fatal("no console")
		}
		state := uint64(seed)*7919 + 17
		for n := 0; n < 5000 && s.Steps < 300; n++ {
			state = state*6364136223846793005 + 1442695040888963407
			met[impl.Wait(s)]++
			var done bool
			if s, done = letRun(t, s, int(state>>40), seed%3); done {
				l, _ = impl.LockStep(l)
				checkAsInStep(t, fmt.Sprint("seed ", seed), s, l)
			}
			if !impl.SplitOk(s) {
				t.Fatalf("seed %d: not right: %s", seed, tellSplit(s))
			}
		}
		checkLock(t, fmt.Sprint("seed ", seed, ", levelled"), lockOf(levelled(s)), l)
	}
	for _, why := range []int{impl.WtNone, impl.WtPicture, impl.WtSound, impl.WtPictureRoom, impl.WtSoundRoom} {
		if met[why] < 20 {
			t.Errorf("%d was met %d times: %v", why, met[why], met)
		}
	}
}

// TestTheUnitsWaitAsLongAsTheyCan: each is caught up only where the processor waits for it, to the end of the time.
func TestTheUnitsWaitAsLongAsTheyCan(t *testing.T) {
	for seed := range 4 {
		m, pads := programOf(seed+30), padsOf(seed+2)
		s, _ := impl.SplitNew(m, pads, []int{1, 16}[seed%2])
		l, _ := impl.LockNew(m, pads)
		met := [7]int{}
		for done := true; done; {
			why := impl.Wait(s)
			for ; why != impl.WtNone && why != impl.WtOver; why = impl.Wait(s) {
				met[why]++
				switch why {
				case impl.WtPicture, impl.WtPictureRoom:
					s.Picture = impl.PictureCatch(s.Picture, s.T)
				case impl.WtSound, impl.WtSoundRoom:
					s.Sound = impl.SoundCatch(s.Sound, s.T)
				}
				if again := impl.Wait(s); again == why {
					t.Fatalf("caught up it still waits for %d: %s", why, tellSplit(s))
				}
			}
			if s, done = impl.CpuStep(s); done != (why == impl.WtNone) {
				t.Fatalf("Wait is %d, CpuStep %v", why, done)
			}
			if done {
				l, _ = impl.LockStep(l)
				checkAsInStep(t, fmt.Sprint("seed ", seed), s, l)
			}
		}
		if _, more := impl.LockStep(l); more || s.T < 19990 {
			t.Errorf("seed %d: it ends at %d", seed, s.T)
		}
		checkLock(t, "levelled", lockOf(levelled(s)), l)
		if met[1]+met[2]+met[3]+met[4] < 50 {
			t.Errorf("seed %d: waited %v", seed, met)
		}
	}
}

// roomySplit is a copy with spare room behind all its lists, and a way to see whether that was written into.
func roomySplit(s impl.Split) (impl.Split, func() bool) {
	l, clean := roomyLock(lockOf(s))
	s.Img, s.Pads, s.Mem, s.Reads = l.Img, l.Pads, l.Mem, l.Obs.Reads
	s.Picture = impl.Picture{Ppu: l.Ppu, Ring: impl.Ring{Cap: s.Picture.Ring.Cap, List: roomyRecs(s.Picture.Ring.List)}, Frames: l.Obs.Frames}
	s.Sound = impl.Sound{Apu: l.Apu, Ring: impl.Ring{Cap: s.Sound.Ring.Cap, List: roomyRecs(s.Sound.Ring.List)}, Samples: l.Obs.Samples}
	return s, func() bool { return clean() && roomIsSpare(s.Picture.Ring.List) && roomIsSpare(s.Sound.Ring.List) }
}

// spoilSplit turns all that is in the lists, and in their room, after it has seen that no two of them share any.
func spoilSplit(t *testing.T, what string, s impl.Split) {
	t.Helper()
	checkApart(t, what, listsOf(lockOf(s)))
	spoilRecs(s.Picture.Ring.List)
	sound := s.Sound.Ring.List[:cap(s.Sound.Ring.List)]
	for n := range sound {
		sound[n] = impl.Rec{T: -8, Reg: -8, V: -8}
	}
	picture := s.Picture.Ring.List[:cap(s.Picture.Ring.List)]
	if slices.ContainsFunc(picture, func(x impl.Rec) bool { return x.T != -7 }) {
		t.Fatalf("%s: both rings share their room", what)
	}
	clear(s.Img.Banks[:cap(s.Img.Banks)])
	clear(s.Picture.Frames[:cap(s.Picture.Frames)])
}

// someSplits go on, or wait, for each of the reasons, and some are not right.
func someSplits() map[string]impl.Split {
	some := map[string]impl.Split{"over": doing(splitAt(19998), "sta", 8196), "zero": {}}
	for n, name := range []string{"lda", "sta", "sax", "jsr", "rti", "pha", "nop"} {
		for _, at := range []int{0, 47, 48, 130} {
			for _, arg := range []int{8192, 8196, 16386, 16406, 7, 32768} {
				s := doing(splitBehind(at, at*(n%2)/2, at*(n%2)/3, 2), name, arg)
				s.Picture.Ring.List, s.Sound.Ring.List = recsAt(at, at)[:(n+at)%3], recsAt(at, at)[:(n+at+1)%3]
				some[fmt.Sprint(name, " ", arg, " at ", at)] = s
			}
		}
	}
	some["Nmi"] = splitWith(splitAt(70), func(s *impl.Split) { s.Nmi = true })
	some["who asks"] = splitWith(splitAt(70), func(s *impl.Split) { s.Cpu.I, s.Known = false, true })
	some["heard"] = splitWith(splitAt(70), func(s *impl.Split) { s.Cpu.I, s.KnownAt = false, 5 })
	some["not heard"] = splitWith(splitAt(70), func(s *impl.Split) { s.Cpu.I, s.KnownAt, s.Sound = false, 5, soundAt(60, recsAt(61, 70)...) })
	for n, name := range []string{"KnownAt -1", "Ctrl 256", "T 0", "a sound record ahead", "a picture too few"} {
		some[fmt.Sprint("wrong ", n)] = wrongSplits()[name]
	}
	return some
}

func splitAnswers() map[string]func(impl.Split) impl.Split {
	return map[string]func(impl.Split) impl.Split{
		"CpuStep": func(s impl.Split) impl.Split { got, _ := impl.CpuStep(s); return got },
		"SplitNew": func(s impl.Split) impl.Split {
			got, _ := impl.SplitNew(s.Img, s.Pads, s.Sound.Ring.Cap)
			return got
		},
		"Wait":    func(s impl.Split) impl.Split { return impl.Split{T: impl.Wait(s)} },
		"SplitOk": func(s impl.Split) impl.Split { return impl.Split{Nmi: impl.SplitOk(s)} },
	}
}

// checkNewSplits: no list that was handed in is changed, nor the room behind it, and no answer shares any.
func checkNewSplits(t *testing.T, answers map[string]func(impl.Split) impl.Split) {
	t.Helper()
	for name, start := range someSplits() {
		for what, answer := range answers {
			what += ", " + name
			s, clean := roomySplit(start)
			got, again, want := answer(s), answer(s), answer(copyOfSplit(start))
			checkSplit(t, what+": with room behind the argument", got, want)
			checkSplit(t, what+": the argument", s, start)
			spoilSplit(t, what, got)
			checkSplit(t, what+": the argument, as an answer is turned", s, start)
			if !clean() {
				t.Fatalf("%s: the room behind was written into", what)
			}
			spoilSplit(t, what, s)
			checkSplit(t, what+": another answer", again, want)
		}
	}
}

func TestSplitAnswersAreNewMemory(t *testing.T) { checkNewSplits(t, splitAnswers()) }

// sharingSplit is a console whose lists lie in each other's rooms, as far as their numbers let them.
func sharingSplit() impl.Split {
	s := doing(splitAt(150), "sta", 8196)
	l, records := sharing(), recsAt(slices.Repeat([]int{150}, 9)...)
	s.Img, s.Pads, s.Reads = l.Img, l.Pads, l.Obs.Reads
	s.Picture, s.Sound.Samples = impl.Picture{Ppu: l.Ppu, Frames: l.Obs.Frames}, l.Obs.Samples
	s.Picture.Ring, s.Sound.Ring = impl.Ring{Cap: 16, List: records[:4]}, impl.Ring{Cap: 16, List: records[:5]}
	return s
}

// checkSharingSplits: what shares its room when it is handed in is answered as if it did not, and shares none in the answer.
func checkSharingSplits(t *testing.T, answers map[string]func(impl.Split) impl.Split) {
	t.Helper()
	for _, addr := range []int{8196, 16385, 16406, 7} {
		for what, answer := range answers {
			what := fmt.Sprint(what, ", sta ", addr)
			sharing := func() impl.Split {
				s := sharingSplit()
				s.Mem.Ram[41], s.Mem.Ram[42] = addr%256, addr/256
				return s
			}
			s := sharing()
			got := answer(s)
			checkSplit(t, what, got, answer(copyOfSplit(sharing())))
			checkSplit(t, what+": the argument", s, sharing())
			spoilSplit(t, what, got)
		}
	}
}

func TestSplitListsThatShareOneRoom(t *testing.T) {
	checkSharingSplits(t, splitAnswers())
	if _, done := impl.CpuStep(sharingSplit()); !done {
		t.Error("it waits")
	}
}

// TestSplitAnswersHangOnNoGoroutine: the same console asked again and again, by many at a time, however many run at once.
func TestSplitAnswersHangOnNoGoroutine(t *testing.T) {
	some := someSplits()
	type answer struct {
		s    impl.Split
		wait int
		done bool
	}
	ask := func(s impl.Split) answer {
		got, done := impl.CpuStep(s)
		return answer{got, impl.Wait(s), done}
	}
	want := map[string]answer{}
	for name, s := range some {
		want[name] = ask(copyOfSplit(s))
	}
	for _, procs := range []int{1, 2, 8} {
		before := runtime.GOMAXPROCS(procs)
		var all sync.WaitGroup
		for range 8 {
			all.Go(func() {
				for name, s := range some {
					for range 3 {
						if got := ask(s); got.wait != want[name].wait || got.done != want[name].done || !sameSplit(got.s, want[name].s) {
							t.Errorf("%s: another answer: %d, %v, %s", name, got.wait, got.done, tellSplit(got.s))
						}
					}
				}
			})
		}
		all.Wait()
		runtime.GOMAXPROCS(before)
	}
}
