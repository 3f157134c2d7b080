package tests

import (
	"fmt"
	"maps"
	"math"
	"runtime"
	"slices"
	"strings"
	"sync"
	"testing"

	"loop.example/g00231/impl"
)

// verdict is what the five judges say: the processor's, what is seen's, the levelled one's, who is alive's, and that of all.
type verdict [5]bool

var (
	allHold  = verdict{true, true, true, true, true}
	justLive = verdict{false, false, false, true, false}
)

var judgeNames = []string{"JudgeCpu", "JudgeSeen", "JudgeLevel", "JudgeAlive", "JudgeAll"}

func verdictOf(s impl.Split) verdict {
	return verdict{impl.JudgeCpu(s), impl.JudgeSeen(s), impl.JudgeLevel(s), impl.JudgeAlive(s), impl.JudgeAll(s)}
}

// verdictBy is of the first three judges, of somebody who is alive; all hold just if each does.
func verdictBy(cpu, seen, level bool) verdict {
	return verdict{cpu, seen, level, true, cpu && seen && level}
}

// wantTwin goes step by step from the beginning on.
func wantTwin(s impl.Split) impl.Lock {
	if !impl.SplitOk(s) || s.Steps > 3000 {
		return impl.Lock{}
	}
	l, done := impl.LockNew(s.Img, s.Pads)
	for n := 0; done && n < s.Steps; n++ {
		l, done = impl.LockStep(l)
	}
	return l
}

// wantVerdict is told the twin, as many are asked of one.
func wantVerdict(s impl.Split, twin impl.Lock) verdict {
	if !impl.SplitOk(s) {
		return verdict{}
	}
	level := wantLevel(s)
	w := verdictBy(s.Cpu == twin.Cpu && sameMem(s.Mem, twin.Mem) && s.Pad == twin.Pad && s.Nmi == twin.Nmi && s.T == twin.Ppu.T && slices.Equal(s.Reads, twin.Obs.Reads),
		wantBegins(lockOf(s).Obs, twin.Obs), sameLock(lockOf(level), twin))
	if s.Steps > 3000 {
		w = justLive
	}
	w[3] = len(wantAble(s)) > 0 || wantWait(level) == 5
	w[4] = w[4] && w[3]
	return w
}

func checkVerdict(t *testing.T, what string, s impl.Split, want verdict) {
	t.Helper()
	was := copyOfSplit(s)
	for n, got := range verdictOf(s) {
		if got != want[n] {
			t.Fatalf("%s: %s is %v, of %s", what, judgeNames[n], got, tellSplit(s))
		}
	}
	checkSplit(t, what+": the argument", s, was)
}

func checkTwin(t *testing.T, what string, s impl.Split, want impl.Lock) {
	t.Helper()
	was := copyOfSplit(s)
	checkLock(t, what+": Twin", impl.Twin(s), want)
	checkSplit(t, what+": the argument of Twin", s, was)
}

// judgedText is a program that tells both units something again and again, by two bytes that go up, and reads the pad without end.
// Each picture reads the picture unit; who asks reads the sound unit, and gives it another length.
const judgedText = "ldi 129\nsta 8192\nldi 20\nsta 16384\nldi 2\nsta 16385\nldi 1\nsta 16386\nsta 16406\nldi 0\nsta 16406\ncli\n" +
	"inx\ntxa\nsta 8193\nsta 8197\nsta 8196\nsta 16384\nlda 16406\npha\nadi 5\nsta 16\nsta 32768\njmp 49181\n" +
	"at 128\npha\nlda 8194\npla\nrti\nat 160\npha\nlda 16386\nldi 3\nsta 16385\npla\nrti\n" +
	"at 250\nbyte 128\nbyte 192\nbyte 0\nbyte 192\nbyte 160\nbyte 192\n"

// judgedNew is that program, new, behind a bank that is switched in and out.
func judgedNew(t *testing.T, cap int) impl.Split {
	t.Helper()
	bank, fault := impl.Assemble(judgedText)
	s, ok := impl.SplitNew(impl.Image{Banks: [][]int{imageOf(1).Banks[0], bank}}, padsOf(5), cap)
	if fault != 0 || !ok {
		t.Fatalf("no console: line %d", fault)
	}
	return s
}

// judgedBehind was let run so that both units are behind, each with records on the way, and a picture is begun.
func judgedBehind(t *testing.T) impl.Split {
	t.Helper()
	for steps := 240; steps < 400; steps++ {
		s, _ := impl.Fair(judgedNew(t, 8), steps)
		s, _ = impl.Play(s, make([]int, 9))
		if len(s.Picture.Ring.List) > 2 && len(s.Sound.Ring.List) > 0 && len(s.Picture.Ppu.Dots) > 2 &&
			len(s.Picture.Frames) > 5 && len(s.Sound.Samples) > 20 && len(s.Reads) > 20 && s.Picture.Ppu.T+5 < s.T && s.Sound.Apu.T+5 < s.T {
			return s
		}
	}
	t.Fatal("no such console")
	return impl.Split{}
}

func TestJudgeByHand(t *testing.T) {
	s, ok := impl.SplitNew(looping(t, "ldi 7\nsta 8197\nlda 16406\njmp 49152\n").Img, []int{1}, 1)
	if !ok {
		t.Fatal("no console")
	}
	start, _ := impl.LockNew(s.Img, s.Pads)
	for n, e := range []struct {
		who, steps, at, pal int
		reads               []int
	}{
		{1, 0, 0, 0, nil}, {0, 1, 2, 0, nil}, {0, 2, 6, 7, nil}, {1, 2, 6, 7, nil}, {2, 2, 6, 7, nil}, {0, 3, 10, 7, []int{0}}, {0, 4, 13, 7, []int{0}},
		{0, 5, 15, 7, []int{0}}, {0, 5, 15, 7, []int{0}}, {1, 5, 15, 7, []int{0}}, {1, 5, 15, 7, []int{0}}, {0, 6, 19, 7, []int{0}}, {3, 6, 19, 7, []int{0}},
	} {
		s, _ = impl.Pick(s, e.who)
		twin := impl.Twin(s)
		if s.Steps != e.steps || twin.Steps != e.steps || twin.Ppu.T != e.at || twin.Apu.T != e.at || twin.Ppu.Pal != e.pal || !slices.Equal(twin.Obs.Reads, e.reads) || twin.Ppu.Ctrl != 0 || len(twin.Obs.Samples) != e.at/16 {
			t.Fatalf("pick number %d: %s, of %s", n, tellLock(twin), tellSplit(s))
		}
		run, _ := impl.LockRun(start, e.steps)
		checkTwin(t, "by hand", s, run)
		checkVerdict(t, fmt.Sprint("pick number ", n), s, allHold)
	}
	if s.Picture.Ppu.T != 2 || s.Sound.Apu.T != 1 || len(s.Picture.Ring.List) != 1 {
		t.Errorf("the units are not behind: %s", tellSplit(s))
	}
}

func TestJudgeOfANewConsole(t *testing.T) {
	for cap := 1; cap <= 16; cap++ {
		for seed := range 6 {
			m, pads := programOf(seed), rightPads()[(cap*6+seed)%29]
			if seed > 3 {
				m = imageOf(seed*2 - 7 + cap%6)
			}
			s, ok := impl.SplitNew(m, pads, cap)
			l, _ := impl.LockNew(m, pads)
			what := fmt.Sprint("rings of ", cap, ", seed ", seed)
			if !ok || len(s.Reads)+len(s.Picture.Frames)+len(s.Sound.Samples)+len(s.Picture.Ring.List)+len(s.Sound.Ring.List) > 0 || s.Steps != 0 || s.T != 0 {
				t.Fatalf("%s: something was told, read or is on the way: %s", what, tellSplit(s))
			}
			checkTwin(t, what, s, l)
			checkLock(t, what+": AsLock", impl.AsLock(s), l)
			checkVerdict(t, what, s, allHold)
		}
	}
}

// TestTwinIsSoManySteps in step, from none on; of a console that was let run, and of any other with as many steps.
func TestTwinIsSoManySteps(t *testing.T) {
	for seed := range 6 {
		s := newApart(t, seed*3)
		l, _ := impl.LockNew(s.Img, s.Pads)
		for n := range 261 {
			what := fmt.Sprint("seed ", seed, ", ", n, " steps")
			checkTwin(t, what, s, l)
			other := splitWith(splitAt(300+n), func(o *impl.Split) { o.Img, o.Pads, o.Steps, o.Mem.Bank = s.Img, s.Pads, n, 0 })
			checkTwin(t, what+", of another one", other, l)
			var done, inStep bool
			s, done = impl.CpuStep(impl.Level(s))
			if l, inStep = wantLockStep(l); !done || !inStep {
				t.Fatalf("%s: no step", what)
			}
		}
	}
}

// TestTwinHangsOnNothingElse than Img, Pads and Steps.
func TestTwinHangsOnNothingElse(t *testing.T) {
	s := judgedBehind(t)
	twin := wantTwin(s)
	for name, change := range map[string]func(*impl.Split){
		"the processor": func(s *impl.Split) { s.Cpu = impl.Cpu{A: 1, I: true} }, "the memory": func(s *impl.Split) { s.Mem = fullMem(1) },
		"the pad": func(s *impl.Split) { s.Pad = impl.Pad{Held: true, Shift: 9} }, "Nmi": func(s *impl.Split) { s.Nmi = !s.Nmi },
		"Ctrl": func(s *impl.Split) { s.Ctrl = 3 }, "Known": func(s *impl.Split) { s.Known = !s.Known }, "KnownAt": func(s *impl.Split) { s.KnownAt = 0 },
		"Reads": func(s *impl.Split) { s.Reads = nil }, "T": func(s *impl.Split) { s.T = 20000 },
		"the picture unit": func(s *impl.Split) { s.Picture = pictureAt(70) }, "the sound unit": func(s *impl.Split) { s.Sound = soundAt(s.T) },
		"rings": func(s *impl.Split) { s.Picture.Ring, s.Sound.Ring = impl.Ring{Cap: 1}, impl.Ring{Cap: 16} },
	} {
		other := splitWith(s, change)
		checkSplitOk(t, name, other, true)
		checkTwin(t, name, other, twin)
	}
	for name, change := range map[string]func(*impl.Split){
		"a byte of the program": func(s *impl.Split) { s.Img.Banks[1][1] = 130 }, "pads": func(s *impl.Split) { s.Pads[0]++ },
		"no pads": func(s *impl.Split) { s.Pads = nil }, "Steps": func(s *impl.Split) { s.Steps-- }, "no step": func(s *impl.Split) { s.Steps = 0 },
	} {
		other := splitWith(s, change)
		checkSplitOk(t, name, other, true)
		if checkTwin(t, name, other, wantTwin(other)); sameLock(impl.Twin(other), twin) {
			t.Errorf("%s: no other twin", name)
		}
	}
}

// TestTwinOfWhatHasNone: what is not SplitOk, also with steps that a console could have.
func TestTwinOfWhatHasNone(t *testing.T) {
	for name, s := range wrongSplits() {
		checkTwin(t, name, s, impl.Lock{})
		checkVerdict(t, name, s, verdict{})
		s.Steps = 0
		if !impl.SplitOk(s) {
			checkTwin(t, name+", no step", s, impl.Lock{})
			checkVerdict(t, name+", no step", s, verdict{})
		}
	}
}

// TestJudgeAtMaxSteps: a console that was let run, with just as many steps, has a twin; with one more it has none, but is alive.
func TestJudgeAtMaxSteps(t *testing.T) {
	for name, s := range map[string]impl.Split{
		"jmp": loopingApart(t, "jmp 49152\n", 1), "units": loopingApart(t, "lda 8194\nsta 8196\nsta 16385\njmp 49152\n", 3),
		"judged": judgedNew(t, 2), "a program": newApart(t, 5),
	} {
		l, _ := impl.LockNew(s.Img, s.Pads)
		s, _ = impl.Fair(s, 2999)
		for steps := 2999; steps < 3004; steps++ {
			what := fmt.Sprint(name, ", ", steps, " steps")
			if s.Steps != steps {
				t.Fatalf("%s: %d", what, s.Steps)
			}
			twin, want := impl.Lock{}, justLive
			if steps <= 3000 {
				twin, _ = impl.LockRun(l, steps)
				want = allHold
			}
			checkTwin(t, what, s, twin)
			checkVerdict(t, what, s, want)
			checkVerdict(t, what+", Level", impl.Level(s), want)
			s, _ = impl.CpuStep(impl.Level(s))
		}
	}
}

// TestJudgeAboveMaxSteps of what has as little to show as the zero that such a Twin is: it is not held against that.
func TestJudgeAboveMaxSteps(t *testing.T) {
	for _, steps := range []int{0, 1, 2999, 3000, 3001, 3002, 6000, 19999, 20000} {
		s, _ := impl.SplitNew(imageOf(1), nil, 1)
		s.T, s.Steps = 20000, steps
		want := verdictBy(false, true, false)
		if steps > 3000 {
			want = justLive
		}
		checkSplitOk(t, "much time", s, true)
		checkVerdict(t, fmt.Sprint(steps, " steps"), s, want)
		checkTwin(t, fmt.Sprint(steps, " steps"), s, wantTwin(s))
	}
	for _, at := range []int{3000, 3001, 20000} { // the most steps that a time lets be
		s := splitWith(splitAt(at), func(s *impl.Split) { s.Steps = at })
		checkTwin(t, fmt.Sprint("as many as ", at), s, wantTwin(s))
		checkVerdict(t, fmt.Sprint("as many as ", at), s, justLive)
		if got := impl.Twin(s).Steps; got != at*one(at == 3000) {
			t.Errorf("%d steps of %d", got, at)
		}
	}
}

// turn is one thing of a console that is turned behind the row, while the console stays right, and what the judges say of it.
type turn struct {
	name   string
	change func(*impl.Split)
	want   verdict
}

// turnsOfCpu are what the processor's side has; of those only what was read is seen.
func turnsOfCpu() []turn {
	unseen, seen, none := verdictBy(false, true, false), verdictBy(false, false, false), allHold
	turns := []turn{
		{"Z", func(s *impl.Split) { s.Cpu.Z = !s.Cpu.Z }, unseen}, {"N", func(s *impl.Split) { s.Cpu.N = !s.Cpu.N }, unseen},
		{"C", func(s *impl.Split) { s.Cpu.C = !s.Cpu.C }, unseen}, {"I", func(s *impl.Split) { s.Cpu.I = !s.Cpu.I }, unseen},
		{"Pc", func(s *impl.Split) { s.Cpu.Pc = (s.Cpu.Pc + 1) % 65536 }, unseen}, {"Pc, a bank on", func(s *impl.Split) { s.Cpu.Pc = (s.Cpu.Pc + 256) % 65536 }, unseen},
		{"the bank", func(s *impl.Split) { s.Mem.Bank = 1 - s.Mem.Bank }, unseen},
		{"the pad held", func(s *impl.Split) { s.Pad.Held = !s.Pad.Held }, unseen}, {"the pad's byte", func(s *impl.Split) { s.Pad.Shift ^= 128 }, unseen},
		{"Nmi", func(s *impl.Split) { s.Nmi = !s.Nmi }, unseen},
		{"one more read, of 0", func(s *impl.Split) { s.Reads = append(s.Reads, 0) }, seen}, {"one more read, as the last", func(s *impl.Split) { s.Reads = append(s.Reads, s.Reads[len(s.Reads)-1]) }, seen},
		{"one less read", func(s *impl.Split) { s.Reads = s.Reads[:len(s.Reads)-1] }, unseen}, {"no read", func(s *impl.Split) { s.Reads = nil }, unseen},
		{"the first read less", func(s *impl.Split) { s.Reads = append([]int{s.Reads[0] + 1}, s.Reads[2:]...) }, seen},
		{"T alone", func(s *impl.Split) { s.T++ }, unseen}, {"T alone, far on", func(s *impl.Split) { s.T = 20000 }, unseen},
		{"one more of Steps", func(s *impl.Split) { s.Steps++ }, unseen}, {"many more of Steps", func(s *impl.Split) { s.Steps += 90 }, unseen},
		{"half of Steps", func(s *impl.Split) { s.Steps /= 2 }, seen}, {"no Steps", func(s *impl.Split) { s.Steps = 0 }, seen},
		{"Ctrl, which no judge asks for", func(s *impl.Split) { s.Ctrl = 255 - s.Ctrl }, none}, {"Known, likewise", func(s *impl.Split) { s.Known = !s.Known }, none},
		{"KnownAt, likewise", func(s *impl.Split) { s.KnownAt = 0 }, none}, {"the rings' Cap, likewise", func(s *impl.Split) { s.Picture.Ring.Cap, s.Sound.Ring.Cap = 16, 16 }, none},
		{"a byte of the image that is not reached", func(s *impl.Split) { s.Img.Banks[1][249]++ }, none},
	}
	for name, of := range map[string]func(*impl.Split) *int{
		"A": func(s *impl.Split) *int { return &s.Cpu.A }, "X": func(s *impl.Split) *int { return &s.Cpu.X }, "S": func(s *impl.Split) *int { return &s.Cpu.S },
	} {
		for _, bit := range []int{1, 128} {
			turns = append(turns, turn{fmt.Sprint(name, " by ", bit), func(s *impl.Split) { *of(s) ^= bit }, unseen})
		}
	}
	for _, at := range []int{0, 1, 16, 100, 255, 256, 300, 510, 511} {
		turns = append(turns, turn{fmt.Sprint("memory at ", at), func(s *impl.Split) { s.Mem.Ram[at] ^= 1 }, unseen})
	}
	for _, v := range []int{1, -1, 256, math.MinInt, math.MaxInt} {
		for _, part := range []int{0, 1, 2} { // the first, one within, the last
			turns = append(turns, turn{fmt.Sprint("read number ", part, " of 2, by ", v), func(s *impl.Split) { s.Reads[(len(s.Reads)-1)*part/2] += v }, seen})
		}
	}
	return turns
}

// turnsOfSeen are what the units told already, which may be any number.
func turnsOfSeen() []turn {
	var turns []turn
	told := verdictBy(true, false, false)
	for _, v := range []int{1, -1, 8, 256, math.MinInt, math.MaxInt} {
		for _, part := range []int{0, 1, 2} {
			turns = append(turns,
				turn{fmt.Sprint("sample number ", part, " of 2, by ", v), func(s *impl.Split) { s.Sound.Samples[(len(s.Sound.Samples)-1)*part/2] += v }, told},
				turn{fmt.Sprint("picture number ", part, " of 2, by ", v), func(s *impl.Split) { s.Picture.Frames[(len(s.Picture.Frames)-1)*part/2][part*23] += v }, told})
		}
	}
	return turns
}

// turnsOfUnits are of a console whose units are caught up: so nothing comes that would tell them anew.
func turnsOfUnits() []turn {
	turns := []turn{
		{"Blank", func(s *impl.Split) { s.Picture.Ppu.Blank = !s.Picture.Ppu.Blank }, verdict{}}, {"Asks", func(s *impl.Split) { s.Sound.Apu.Asks = !s.Sound.Apu.Asks }, verdict{}},
		{"Irq", func(s *impl.Split) { s.Sound.Apu.Irq = !s.Sound.Apu.Irq }, verdict{}}, {"Bit", func(s *impl.Split) { s.Sound.Apu.Bit = 1 - s.Sound.Apu.Bit }, verdict{}},
		{"Ctrl of the picture unit", func(s *impl.Split) { s.Picture.Ppu.Ctrl ^= 1 }, verdict{}}, {"Scroll", func(s *impl.Split) { s.Picture.Ppu.Scroll ^= 128 }, verdict{}},
		{"Addr", func(s *impl.Split) { s.Picture.Ppu.Addr ^= 1 }, verdict{}}, {"Pal", func(s *impl.Split) { s.Picture.Ppu.Pal ^= 32 }, verdict{}},
		{"Table", func(s *impl.Split) { s.Picture.Ppu.Table[0] ^= 1 }, verdict{}}, {"the end of Table", func(s *impl.Split) { s.Picture.Ppu.Table[15] ^= 32 }, verdict{}},
		{"Dots", func(s *impl.Split) { s.Picture.Ppu.Dots[0] ^= 1 }, verdict{}}, {"the last of Dots", func(s *impl.Split) { s.Picture.Ppu.Dots[len(s.Picture.Ppu.Dots)-1] ^= 1 }, verdict{}},
		{"Period", func(s *impl.Split) { s.Sound.Apu.Period ^= 1 }, verdict{}}, {"Count", func(s *impl.Split) { s.Sound.Apu.Count ^= 1 }, verdict{}},
		{"Length", func(s *impl.Split) { s.Sound.Apu.Length ^= 16 }, verdict{}},
		{"a record on the way to the picture unit", func(s *impl.Split) { s.Picture.Ring.List = []impl.Rec{{T: s.T, Reg: 5, V: s.Picture.Ppu.Pal ^ 1}} }, verdict{}},
		{"a record on the way to the sound unit", func(s *impl.Split) {
			s.Sound.Ring.List = []impl.Rec{{T: s.T, Reg: 0, V: s.Sound.Apu.Period ^ 1}}
		}, verdict{}},
	}
	for n := range turns {
		turns[n].want = verdictBy(true, true, false)
	}
	return append(turns, turn{"a record on the way that tells nothing", func(s *impl.Split) { s.Picture.Ring.List = []impl.Rec{{T: s.T, Reg: 2, V: 9}} }, allHold})
}

// lastOf is the last record for that part: what it tells is not told anew.
func lastOf(r *impl.Ring, reg int) *impl.Rec {
	for n := len(r.List) - 1; n >= 0; n-- {
		if r.List[n].Reg == reg {
			return &r.List[n]
		}
	}
	return &impl.Rec{}
}

// turnsOnTheWay are of a console with records on the way to both units, and with a picture that is not told yet.
func turnsOnTheWay() []turn {
	later := verdictBy(true, true, false)
	return []turn{
		{"a colour on the way", func(s *impl.Split) { lastOf(&s.Picture.Ring, 5).V ^= 1 }, later}, {"a place on the way", func(s *impl.Split) { lastOf(&s.Picture.Ring, 1).V ^= 1 }, later},
		{"a number of the table on the way", func(s *impl.Split) { lastOf(&s.Picture.Ring, 4).V ^= 1 }, later}, {"a tone on the way", func(s *impl.Split) { lastOf(&s.Sound.Ring, 0).V ^= 1 }, later},
		{"a record for another part", func(s *impl.Split) { lastOf(&s.Picture.Ring, 5).Reg = 0 }, later}, {"one for another part of the sound unit", func(s *impl.Split) { lastOf(&s.Sound.Ring, 0).Reg = 1 }, later},
		{"a record less for the picture unit", func(s *impl.Split) { s.Picture.Ring.List = s.Picture.Ring.List[:len(s.Picture.Ring.List)-1] }, later},
		{"a record less for the sound unit", func(s *impl.Split) { s.Sound.Ring.List = nil }, later},
		{"a record more for the picture unit", func(s *impl.Split) {
			s.Picture.Ring.List = append(s.Picture.Ring.List, impl.Rec{T: s.T, Reg: 3, V: 99})
		}, later},
		{"a dot that is not told yet", func(s *impl.Split) { s.Picture.Ppu.Dots[0] ^= 1 }, later}, {"what the sound unit counts", func(s *impl.Split) { s.Sound.Apu.Length ^= 16 }, later},
		{"both on the way, by each other", func(s *impl.Split) { s.Picture.Ring.List, s.Sound.Ring.List = s.Sound.Ring.List, s.Picture.Ring.List }, later},
	}
}

// checkTurned: each thing is turned by itself; the table and the words are of one mind.
func checkTurned(t *testing.T, what string, s impl.Split, turns []turn) {
	t.Helper()
	checkVerdict(t, what, s, allHold)
	usual := wantTwin(s)
	for _, e := range turns {
		other, twin := splitWith(s, e.change), usual
		if checkSplitOk(t, what+": "+e.name, other, true); sameSplit(other, s) {
			t.Fatalf("%s: %s: nothing is turned", what, e.name)
		}
		if other.Steps != s.Steps || !sameImage(other.Img, s.Img) || !slices.Equal(other.Pads, s.Pads) {
			twin = wantTwin(other)
		}
		if want := wantVerdict(other, twin); want != e.want {
			t.Fatalf("%s: %s: %v by the table, %v by the words, of %s", what, e.name, e.want, want, tellSplit(other))
		}
		checkVerdict(t, what+": "+e.name, other, e.want)
		checkTwin(t, what+": "+e.name, other, twin)
	}
	checkVerdict(t, what+", as it was", s, allHold)
}

func TestJudgeOfWhatIsTurned(t *testing.T) {
	behind := judgedBehind(t)
	level := impl.Level(behind)
	for level.T%64 < 3 || level.T%64 > 48 { // with some dots, that is
		level, _ = impl.CpuStep(level)
		level = impl.Level(level)
	}
	checkTurned(t, "behind", behind, slices.Concat(turnsOfCpu(), turnsOfSeen(), turnsOnTheWay()))
	checkTurned(t, "Level", level, slices.Concat(turnsOfCpu(), turnsOfSeen(), turnsOfUnits()))
}

// TestJudgeSeesEachByteAndDot: of the memory, of the pictures, samples and reads, wherever it is.
func TestJudgeSeesEachByteAndDot(t *testing.T) {
	s, _ := impl.Fair(judgedNew(t, 3), 60)
	if len(s.Picture.Frames) < 2 || len(s.Reads) < 3 {
		t.Fatalf("too early: %s", tellSplit(s))
	}
	var turns []turn
	for at := range s.Mem.Ram {
		turns = append(turns, turn{fmt.Sprint("memory at ", at), func(s *impl.Split) { s.Mem.Ram[at] ^= 64 }, verdictBy(false, true, false)})
	}
	for n := range s.Picture.Frames {
		for at := range 48 {
			turns = append(turns, turn{fmt.Sprint("dot ", at, " of ", n), func(s *impl.Split) { s.Picture.Frames[n][at] ^= 1 }, verdictBy(true, false, false)})
		}
	}
	for at := range s.Sound.Samples {
		turns = append(turns, turn{fmt.Sprint("sample ", at), func(s *impl.Split) { s.Sound.Samples[at] ^= 8 }, verdictBy(true, false, false)})
	}
	for at := range s.Reads {
		turns = append(turns, turn{fmt.Sprint("read ", at), func(s *impl.Split) { s.Reads[at] ^= 1 }, verdictBy(false, false, false)})
	}
	checkTurned(t, "each", s, turns)
}

// TestJudgeOfAnotherImageOrOtherPads: the twin is of these, not of those by which the console was let run.
func TestJudgeOfAnotherImageOrOtherPads(t *testing.T) {
	checkTurned(t, "behind", judgedBehind(t), []turn{
		{"what is told for Ctrl", func(s *impl.Split) { s.Img.Banks[1][1] = 130 }, verdictBy(true, true, false)},
		{"the number that is added", func(s *impl.Split) { s.Img.Banks[1][48]++ }, verdictBy(false, true, false)},
		{"the way from Nmi", func(s *impl.Split) { s.Img.Banks[1][250] = 132 }, verdictBy(false, false, false)},
		{"another program", func(s *impl.Split) { s.Img = imageOf(2) }, verdictBy(false, false, false)},
		{"the bank that is not run", func(s *impl.Split) { s.Img.Banks[0] = make([]int, 256) }, allHold},
		{"other pads", func(s *impl.Split) { s.Pads = []int{255} }, verdictBy(false, false, false)},
		{"pads that are not asked for", func(s *impl.Split) { s.Pads[4]++ }, allHold},
	})
}

// turnAny turns any one number or flag of a console, which may stay right or not.
func turnAny(s *impl.Split, next func(int) int) {
	p, a := &s.Picture.Ppu, &s.Sound.Apu
	flags := []*bool{&s.Cpu.Z, &s.Cpu.N, &s.Cpu.C, &s.Cpu.I, &s.Nmi, &s.Known, &s.Pad.Held, &p.Blank, &a.Asks, &a.Irq}
	numbers := []*int{
		&s.Cpu.A, &s.Cpu.X, &s.Cpu.S, &s.Cpu.Pc, &s.Mem.Bank, &s.Pad.Shift, &s.T, &s.Ctrl, &s.KnownAt, &s.Steps,
		&p.T, &p.Ctrl, &p.Scroll, &p.Addr, &p.Pal, &a.T, &a.Period, &a.Count, &a.Bit, &a.Length, &s.Picture.Ring.Cap, &s.Sound.Ring.Cap,
	}
	for _, list := range [][]impl.Rec{s.Picture.Ring.List, s.Sound.Ring.List} {
		if len(list) > 0 {
			x := &list[next(len(list))]
			numbers = append(numbers, &x.T, &x.Reg, &x.V)
		}
	}
	lists := slices.Concat([][]int{s.Pads, s.Mem.Ram, s.Reads, s.Sound.Samples, p.Table, p.Dots}, s.Picture.Frames[len(s.Picture.Frames)/2:], s.Img.Banks)
	for _, list := range lists {
		if len(list) > 0 {
			numbers = append(numbers, &list[next(len(list))])
		}
	}
	if n := next(len(flags) + len(numbers)); n < len(flags) {
		*flags[n] = !*flags[n]
	} else {
		*numbers[n-len(flags)] += []int{1, -1, 8, -2}[next(4)]
	}
}

// TestJudgeByItsWords, of consoles that were let run and then turned in one, two or three things: each kind of verdict is met.
func TestJudgeByItsWords(t *testing.T) {
	met := map[verdict]int{}
	for seed := range 40 {
		state := uint64(seed)*2862933555777941757 + 3037000493
		next := func(by int) int {
			state = state*6364136223846793005 + 1442695040888963407
			return int(state >> 33 % uint64(by))
		}
		start, _ := impl.Play(newApart(t, seed), mixedRow(seed, 400+20*seed))
		usual := wantTwin(start)
		for n := range 45 {
			s := copyOfSplit(start)
			for range n % 4 {
				turnAny(&s, next)
			}
			twin := usual
			if s.Steps != start.Steps || !sameImage(s.Img, start.Img) || !slices.Equal(s.Pads, start.Pads) {
				twin = wantTwin(s)
			}
			want := wantVerdict(s, twin)
			what := fmt.Sprint("seed ", seed, ", number ", n)
			if met[want]++; n%4 == 0 && want != allHold {
				t.Fatalf("%s: let run, and %v by the words", what, want)
			}
			checkVerdict(t, what, s, want)
			if want[3] {
				checkTwin(t, what, s, twin)
			}
		}
	}
	// Who is not right is not judged; whoever is the same levelled is the same in all; and somebody of the right is always alive.
	for _, want := range []verdict{{}, allHold, justLive, verdictBy(true, true, false), verdictBy(true, false, false), verdictBy(false, true, false)} {
		if met[want] < 20 {
			t.Errorf("%v was met %d times", want, met[want])
		}
		delete(met, want)
	}
	if len(met) > 0 {
		t.Errorf("met too: %v", met)
	}
}

// checkJudged is P18 of one console that was let run by picks from a new one on.
func checkJudged(t *testing.T, what string, s impl.Split) {
	t.Helper()
	want := allHold
	if s.Steps > 3000 {
		want = justLive
	}
	checkVerdict(t, what, s, want)
}

// TestP18EachRowOfPicks: all rows of so many picks, of the processor and both units, with rings of 1 and of 2.
func TestP18EachRowOfPicks(t *testing.T) {
	for kind, text := range []string{
		"sta 8197\nsta 16385\nlda 8194\nlda 16386\njmp 49152\n", "ldi 129\nsta 8192\nsta 8193\nsta 16384\nlda 16406\njmp 49154\n", "lda 16386\nsta 8196\nsta 8196\nlda 8196\njmp 49152\n",
	} {
		for cap := 1; cap <= 2; cap++ {
			start := loopingApart(t, text, cap)
			const long = 7
			var row [long]int
			var let func(s impl.Split, n int)
			let = func(s impl.Split, n int) {
				checkJudged(t, fmt.Sprint("text ", kind, ", rings of ", cap, ", row ", row[:n]), s)
				for who := 0; n < long && who < 3; who++ {
					if next, done := impl.Pick(s, who); done { // where it does nothing, the row is one that was
						row[n] = who
						let(next, n+1)
					}
				}
			}
			let(start, 0)
		}
	}
}

// TestP18PickByPick: the judges behind one pick after the other.
func TestP18PickByPick(t *testing.T) {
	behind, waits := 0, map[int]int{}
	for seed := range 32 {
		s := newApart(t, seed)
		if seed%2 == 1 {
			s = judgedNew(t, 1+seed/2%4)
		}
		for n, who := range mixedRow(seed*5+1, 260) {
			s, _ = impl.Pick(s, who)
			checkJudged(t, fmt.Sprint("seed ", seed, ", pick number ", n), s)
			behind += one(s.Picture.Ppu.T < s.T)
			waits[impl.Wait(s)]++
		}
	}
	if behind < 1000 || waits[0] < 500 || waits[1] < 20 || waits[2] < 20 || waits[3] < 20 || waits[4] < 20 {
		t.Errorf("behind %d times, waits %v", behind, waits)
	}
}

// TestP18RowByRow: by whole rows and by Fair, with rings of each size, of programs and of images of 1 to 8 banks of any bytes.
func TestP18RowByRow(t *testing.T) {
	entered, most := 0, 0
	for seed := range 48 {
		s := newApart(t, seed)
		if seed%3 == 2 {
			m := impl.Image{}
			for n := range 1 + seed/3%8 {
				m.Banks = append(m.Banks, bytesAt(mixedBytes(seed*8+n, 256), 0, 256))
			}
			s, _ = impl.SplitNew(m, padsOf(seed%21), 1+seed%16)
		}
		for n := range 7 {
			switch (seed + n) % 3 {
			case 0:
				s, _ = impl.Fair(s, 40+seed*5)
			default:
				s, _ = impl.Play(s, mixedRow(seed+n*7, 400+150*(seed%5)))
			}
			what := fmt.Sprint("seed ", seed, ", row ", n)
			checkJudged(t, what, s)
			if n%3 == 0 {
				checkJudged(t, what+", Level", impl.Level(s))
			}
			entered += one(s.Nmi || s.Known && !s.Cpu.I)
		}
		most = max(most, s.Steps)
	}
	if entered < 3 || most < 1000 {
		t.Errorf("%d are about to enter, %d steps at most", entered, most)
	}
}

// TestP18ByOneRuleOfWhoIsLetRunFirst, again and again: the first or the last of the able, the processor until it waits, and so on.
func TestP18ByOneRuleOfWhoIsLetRunFirst(t *testing.T) {
	rules := map[string]func(able []int, n int) int{
		"the first": func(able []int, n int) int { return able[0] }, "the last": func(able []int, n int) int { return able[len(able)-1] },
		"in turn": func(able []int, n int) int { return able[n%len(able)] }, "in the middle": func(able []int, n int) int { return able[len(able)/2] },
		"long turns": func(able []int, n int) int { return able[n/50%len(able)] },
	}
	for name, rule := range rules {
		for cap := 1; cap <= 16; cap += 3 {
			s := judgedNew(t, cap)
			for n := 0; n < 1500; n++ {
				able := impl.Able(s)
				if len(able) == 0 {
					t.Fatalf("%s: nobody is able: %s", name, tellSplit(s))
				}
				s, _ = impl.Pick(s, rule(able, n))
				if n%37 == 0 {
					checkJudged(t, fmt.Sprint(name, ", rings of ", cap, ", pick ", n), s)
				}
			}
			checkJudged(t, fmt.Sprint(name, ", rings of ", cap), s)
		}
	}
}

// TestP18AsManyStepsOfTheProcessor come, Level, to the same, by whatever rows and with whatever rings they were done.
func TestP18AsManyStepsOfTheProcessor(t *testing.T) {
	apart := 0
	for seed := range 30 {
		m, pads := programOf(seed), padsOf(seed%21)
		var all []impl.Split
		most := 0
		for n, cap := range []int{1, 16, 1 + seed%16, 16 - seed%16} {
			s, _ := impl.SplitNew(m, pads, cap)
			s, _ = impl.Play(s, mixedRow(seed+n*11, 700+100*n))
			all, most = append(all, s), max(most, s.Steps)
		}
		for n, s := range all { // each goes on in its own way until it has as many steps as the one that is farthest
			for pick := 0; s.Steps < most; pick++ {
				s, _ = impl.Pick(s, []int{0, 1, 2, 2, 1}[pick*(n+1)%5])
			}
			all[n] = s
		}
		first := impl.AsLock(impl.Level(all[0]))
		for n, s := range all {
			what := fmt.Sprint("seed ", seed, ", row ", n, ", ", most, " steps")
			checkVerdict(t, what, s, allHold)
			level := impl.AsLock(impl.Level(s))
			checkLockSame(t, what, level, first, true)
			checkTwin(t, what, s, level)
			if !impl.ObsSame(impl.ObsOf(impl.Level(s)), impl.ObsOf(impl.Level(all[0]))) || !impl.ObsBegins(impl.ObsOf(s), first.Obs) {
				t.Fatalf("%s: another thing is seen", what)
			}
			apart += one(!sameSplit(s, impl.Level(s)))
		}
	}
	if apart < 40 {
		t.Errorf("only %d were not Level", apart)
	}
}

// TestP18WithRingsOf1And16: by Fair, and by letting the processor run as far as it can ahead of the units.
func TestP18WithRingsOf1And16(t *testing.T) {
	ahead := 0
	for seed := range 16 {
		m, pads := programOf(seed), padsOf(seed)
		small, _ := impl.SplitNew(m, pads, 1)
		great, _ := impl.SplitNew(m, pads, 16)
		for _, steps := range []int{1, 2, 5, 40, 300} {
			small, _ = impl.Fair(small, steps)
			for want := great.Steps + steps; great.Steps < want; {
				next, done := impl.CpuStep(great)
				if !done {
					next = impl.Level(great)
				}
				great = next
			}
			what := fmt.Sprint("seed ", seed, ", ", steps, " steps more")
			checkVerdict(t, what+", rings of 1", small, allHold)
			checkVerdict(t, what+", rings of 16", great, allHold)
			checkLockSame(t, what, impl.AsLock(impl.Level(small)), impl.AsLock(impl.Level(great)), true)
			checkLock(t, what+": Twin", impl.Twin(small), impl.Twin(great))
			ahead += one(great.Picture.Ppu.T < small.Picture.Ppu.T || len(great.Picture.Ring.List) > 1)
		}
	}
	if ahead < 20 {
		t.Errorf("only %d times farther ahead", ahead)
	}
}

// TestJudgeAliveToTheEnd: the processor alone, one unit alone, both or nobody is able, up to where the time is over.
func TestJudgeAliveToTheEnd(t *testing.T) {
	check := func(what string, s impl.Split, able ...int) {
		t.Helper()
		checkAble(t, what, s, able)
		if got := impl.JudgeAlive(s); !got {
			t.Fatalf("%s: JudgeAlive is %v, of %s", what, got, tellSplit(s))
		}
	}
	s := doing(splitAt(19000), "lda", 8194)
	check("the processor", s, 0)
	check("all but the processor", splitWith(s, func(s *impl.Split) { s.Picture, s.Sound = pictureAt(18990), soundAt(18990) }), 1, 2)
	check("the picture unit, by a record", splitWith(s, func(s *impl.Split) { s.Picture.Ring.List = recsAt(19000) }), 1)
	check("the sound unit and the processor", splitWith(s, func(s *impl.Split) { s.Sound.Ring.List = recsAt(19000) }), 0, 2)
	for at := 19997; at <= 20000; at++ {
		s := doing(splitAt(at), "lda", 5)
		check("nobody", s)
		if impl.Wait(impl.Level(s)) != impl.WtOver {
			t.Fatalf("at %d: not over", at)
		}
		check("nobody by Nmi", splitWith(s, func(s *impl.Split) { s.Nmi = true }))
		check("a unit", splitWith(s, func(s *impl.Split) { s.Sound = soundAt(at - 1) }), 2)
		check("a record", splitWith(s, func(s *impl.Split) { s.Picture.Ring.List = recsAt(at) }), 1)
		check("a step of 2 cycles", doing(s, "nop", 0), []int{0}[:one(at <= 19998)]...)
		s.Ctrl = 256
		checkVerdict(t, "not right", s, verdict{})
	}
	check("a step to the very end", doing(splitAt(19996), "lda", 5), 0)
	for seed := range 6 { // let run to the end
		s := newApart(t, seed*7)
		for many := 1; many > 0; {
			s, many = impl.Fair(s, 3000)
			checkJudged(t, "on the way to the end", s)
		}
		check("at the end", s)
		if impl.Wait(s) != impl.WtOver || s.Steps <= 3000 {
			t.Errorf("seed %d: it ends with %s", seed, tellSplit(s))
		}
	}
}

// TestJudgeAliveOfEachRightOne, and of no other.
func TestJudgeAliveOfEachRightOne(t *testing.T) {
	for name, s := range someSplits() {
		if got := impl.JudgeAlive(s); got != impl.SplitOk(s) {
			t.Errorf("%s: JudgeAlive is %v", name, got)
		}
		checkVerdict(t, name, s, wantVerdict(s, wantTwin(s)))
	}
}

// TestJudgeWithTheLeastAndTheGreatestInt, in every number by itself, and in all at once.
func TestJudgeWithTheLeastAndTheGreatestInt(t *testing.T) {
	start := func() impl.Split {
		s := splitAt(84)
		s.Picture, s.Sound = pictureAt(84, recsAt(84)...), soundAt(84, recsAt(84)...)
		return s
	}
	right := start()
	for _, v := range []int{math.MinInt, math.MinInt + 1, math.MaxInt - 1, math.MaxInt} {
		all := start()
		for name := range numbersOfSplit(&right) {
			s := start()
			*numbersOfSplit(&s)[name] = v
			*numbersOfSplit(&all)[name] = v
			checkVerdict(t, fmt.Sprint(name, " ", v), s, verdict{})
			checkTwin(t, fmt.Sprint(name, " ", v), s, impl.Lock{})
		}
		checkVerdict(t, fmt.Sprint("all ", v), all, verdict{})
		checkTwin(t, fmt.Sprint("all ", v), all, impl.Lock{})
		free := splitWith(judgedBehind(t), func(s *impl.Split) { s.Reads[0], s.Picture.Frames[0][5], s.Sound.Samples[1] = v, v, v })
		checkVerdict(t, "what was read, seen and heard", free, justLive)
		checkTwin(t, "what was read, seen and heard", free, wantTwin(free))
	}
}

// judgeAnswers are all functions of the chapter, those that tell a flag as a console with just that.
func judgeAnswers() map[string]func(impl.Split) impl.Lock {
	return map[string]func(impl.Split) impl.Lock{
		"Twin": impl.Twin,
		"the judges": func(s impl.Split) impl.Lock {
			v := verdictOf(s)
			return impl.Lock{Nmi: v[0], Steps: one(v[1]), Pad: impl.Pad{Held: v[2], Shift: one(v[3])}, Cpu: impl.Cpu{Z: v[4]}}
		},
	}
}

// judgedSome are of each kind: let run, turned, and not right.
func judgedSome(t *testing.T) map[string]impl.Split {
	t.Helper()
	some := someSplits()
	for n, name := range slices.Sorted(maps.Keys(some)) {
		if n%5 > 0 && !strings.HasPrefix(name, "wrong") {
			delete(some, name)
		}
	}
	some["behind"], some["new"], some["many steps"] = judgedBehind(t), judgedNew(t, 3), splitWith(splitAt(20000), func(s *impl.Split) { s.Steps = 3001 })
	some["Level"] = impl.Level(some["behind"])
	for seed := range 4 {
		s, _ := impl.Play(newApart(t, seed), mixedRow(seed, 900))
		some[fmt.Sprint("seed ", seed)] = s
		some[fmt.Sprint("seed ", seed, ", turned")] = splitWith(s, func(s *impl.Split) { s.Mem.Ram[511-seed] ^= 1 })
	}
	return some
}

// TestJudgeAnswersAreNewMemory: no list that was handed in is changed, nor the room behind it, and no answer shares any.
func TestJudgeAnswersAreNewMemory(t *testing.T) {
	for name, start := range judgedSome(t) {
		for what, answer := range judgeAnswers() {
			what += ", " + name
			s, clean := roomySplit(start)
			got, again, want := answer(s), answer(s), answer(copyOfSplit(start))
			checkLock(t, what+": with room behind the argument", got, want)
			checkSplit(t, what+": the argument", s, start)
			spoilLock(t, what, got)
			checkSplit(t, what+": the argument, as an answer is turned", s, start)
			if !clean() {
				t.Fatalf("%s: the room behind was written into", what)
			}
			spoilSplit(t, what, s)
			checkLock(t, what+": another answer", again, want)
		}
	}
}

// TestJudgeListsThatShareOneRoom are judged as if they did not, and their twin has lists that share none.
func TestJudgeListsThatShareOneRoom(t *testing.T) {
	sharing := func() impl.Split {
		s := sharingSplit()
		s.Steps = 9
		return s
	}
	for what, answer := range judgeAnswers() {
		s := sharing()
		got := answer(s)
		checkLock(t, what, got, answer(copyOfSplit(sharing())))
		checkSplit(t, what+": the argument", s, sharing())
		spoilLock(t, what, got)
		checkSplit(t, what+": the argument, as an answer is turned", s, sharing())
	}
	if got := impl.Twin(sharing()); got.Steps != 9 || !impl.LockOk(got) {
		t.Errorf("no twin: %s", tellLock(got))
	}
}

// TestJudgeAnswersHangOnNoGoroutine: the same asked again and again, by many at a time, however many run at once.
func TestJudgeAnswersHangOnNoGoroutine(t *testing.T) {
	some := judgedSome(t)
	want := map[string]impl.Lock{}
	for name, s := range some {
		for what, answer := range judgeAnswers() {
			want[what+name] = answer(copyOfSplit(s))
		}
	}
	for _, procs := range []int{1, 2, 8} {
		before := runtime.GOMAXPROCS(procs)
		var all sync.WaitGroup
		for range 6 {
			all.Go(func() {
				for name, s := range some {
					for what, answer := range judgeAnswers() {
						if got := answer(s); !sameLock(got, want[what+name]) {
							t.Errorf("%s of %s: another answer: %s", what, name, tellLock(got))
						}
					}
				}
			})
		}
		all.Wait()
		runtime.GOMAXPROCS(before)
	}
}
