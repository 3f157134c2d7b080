package tests

import (
	"math"
	"testing"

	"loop.example/g00231/impl"
)

// leftBy is what is left of any number by another, from 0 on.
func leftBy(x int, by int) int { return (x%by + by) % by }

// ramRight says of a Ram by plain counting whether it has 512 bytes.
func ramRight(ram []int) bool {
	for _, v := range ram {
		if v < 0 || v > 255 {
			return false
		}
	}
	return len(ram) == 512
}

// console is memory and processor as a test wants them: turned step by step by the chapter's words, in a copy.
type console struct {
	mem impl.Mem
	cpu impl.Cpu
}

func consoleOf(x impl.Mem, c impl.Cpu) *console { return &console{copyOfMem(x), c} }

func (w *console) push(v int) {
	if ramRight(w.mem.Ram) {
		s := leftBy(w.cpu.S, 256)
		w.mem.Ram[256+s] = leftBy(v, 256)
		w.cpu.S = (s + 255) % 256
	}
}

func (w *console) pull() int {
	if !ramRight(w.mem.Ram) {
		return 0
	}
	w.cpu.S = (leftBy(w.cpu.S, 256) + 1) % 256
	return w.mem.Ram[256+w.cpu.S]
}

func (w *console) pushPc() {
	pc := leftBy(w.cpu.Pc, 65536)
	w.push(pc / 256)
	w.push(pc % 256)
}

func (w *console) pullPc() {
	lo := w.pull()
	w.cpu.Pc = lo + 256*w.pull()
}

func (w *console) signs(b int) { w.cpu.Z, w.cpu.N = b == 0, b > 127 }

func (w *console) setA(v int) {
	w.cpu.A = leftBy(v, 256)
	w.signs(w.cpu.A)
}

func (w *console) setX(v int) {
	w.cpu.X = leftBy(v, 256)
	w.signs(w.cpu.X)
}

func (w *console) add(v int) {
	sum := leftBy(w.cpu.A, 256) + leftBy(v, 256) + one(w.cpu.C)
	w.setA(sum)
	w.cpu.C = sum > 255
}

func (w *console) less(v int) {
	rest := leftBy(w.cpu.A, 256) - leftBy(v, 256) - one(!w.cpu.C)
	w.setA(rest)
	w.cpu.C = rest >= 0
}

func (w *console) compare(v int) {
	rest := leftBy(w.cpu.A, 256) - leftBy(v, 256)
	w.signs(leftBy(rest, 256))
	w.cpu.C = rest >= 0
}

func (w *console) jumpIf(so bool, arg int) {
	if so {
		w.cpu.Pc = leftBy(arg, 65536)
	}
}

// bits goes over the eight bits of A and another byte, one by one; taken says of how many that have it the bit is.
func (w *console) bits(v int, taken func(int) bool) {
	sum := 0
	for bit := 1; bit < 256; bit *= 2 {
		if taken(leftBy(w.cpu.A, 256)/bit%2 + leftBy(v, 256)/bit%2) {
			sum += bit
		}
	}
	w.setA(sum)
}

// lenOf is OpLen by the table that stands in the tests.
func lenOf(op int) int {
	if op >= 0 && op < len(opTable) {
		return opTable[op].bytes
	}
	return 1
}

// nameOf is OpName by that table.
func nameOf(op int) string {
	if op >= 0 && op < len(opTable) {
		return opTable[op].name
	}
	return ""
}

// wantExec is what the chapter says of one op.
func wantExec(x impl.Mem, c impl.Cpu, i impl.Instr, v int) (impl.Mem, impl.Cpu) {
	w := consoleOf(x, c)
	w.cpu.Pc = leftBy(c.Pc+lenOf(i.Op), 65536)
	switch nameOf(i.Op) {
	case "ldi":
		w.setA(i.Arg)
	case "lda", "lax":
		w.setA(v)
	case "adi":
		w.add(i.Arg)
	case "ada":
		w.add(v)
	case "sbi":
		w.less(i.Arg)
	case "ani":
		w.bits(i.Arg, func(n int) bool { return n == 2 })
	case "ori":
		w.bits(i.Arg, func(n int) bool { return n > 0 })
	case "xri":
		w.bits(i.Arg, func(n int) bool { return n == 1 })
	case "cpi":
		w.compare(i.Arg)
	case "tax":
		w.setX(c.A)
	case "txa":
		w.setA(c.X)
	case "inx":
		w.setX(c.X + 1)
	case "dex":
		w.setX(c.X - 1)
	default:
		w.goElsewhere(i)
	}
	return w.mem, w.cpu
}

// goElsewhere are the ops of Pc, of the stack and of single flags.
func (w *console) goElsewhere(i impl.Instr) {
	switch nameOf(i.Op) {
	case "bne":
		w.jumpIf(!w.cpu.Z, i.Arg)
	case "beq":
		w.jumpIf(w.cpu.Z, i.Arg)
	case "bcs":
		w.jumpIf(w.cpu.C, i.Arg)
	case "jmp":
		w.jumpIf(true, i.Arg)
	case "jsr":
		w.pushPc()
		w.jumpIf(true, i.Arg)
	case "rts":
		w.pullPc()
	case "pha":
		w.push(w.cpu.A)
	case "pla":
		w.setA(w.pull())
	case "rti":
		w.cpu = flagged(w.cpu, w.pull())
		w.pullPc()
	case "sei":
		w.cpu.I = true
	case "cli":
		w.cpu.I = false
	case "sec":
		w.cpu.C = true
	case "clc":
		w.cpu.C = false
	}
}

func checkConsole(t *testing.T, what string, x impl.Mem, c impl.Cpu, wantMem impl.Mem, wantCpu impl.Cpu) {
	t.Helper()
	if c != wantCpu {
		t.Fatalf("%s: the processor is %+v, want %+v", what, c, wantCpu)
	}
	if !sameMem(x, wantMem) {
		t.Fatalf("%s: Bank %d, Ram %v, want Bank %d, Ram %v", what, x.Bank, x.Ram, wantMem.Bank, wantMem.Ram)
	}
}

// checkExec holds Exec against what is wanted, and sees that what was handed in stays.
func checkExec(t *testing.T, x impl.Mem, c impl.Cpu, i impl.Instr, v int) {
	t.Helper()
	was := copyOfMem(x)
	wantMem, wantCpu := wantExec(x, c, i, v)
	gotMem, gotCpu := impl.Exec(x, c, i, v)
	if gotCpu != wantCpu || !sameMem(gotMem, wantMem) {
		t.Logf("Exec with %+v of %q %+v, read %d", c, nameOf(i.Op), i, v)
		checkConsole(t, nameOf(i.Op), gotMem, gotCpu, wantMem, wantCpu)
	}
	if !sameMem(x, was) {
		t.Fatalf("Exec of %+v wrote into its argument", i)
	}
}

func TestExecConstants(t *testing.T) {
	if impl.VecNmi != 65530 || impl.VecReset != 65532 || impl.VecIrq != 65534 {
		t.Error("vectors", impl.VecNmi, impl.VecReset, impl.VecIrq)
	}
	if i := (impl.Instr{Op: 1, Arg: 2}); i.Op != 1 || i.Arg != 2 {
		t.Error("Instr", i)
	}
}

func TestFetchByHand(t *testing.T) {
	first, second, last := make([]int, 256), make([]int, 256), make([]int, 256)
	second[0], second[1], second[2], second[3], second[255] = 1, 200, 3, 7, 19
	last[0], last[1], last[10], last[11], last[12] = 100, 101, 30, 5, 6
	last[253], last[254], last[255] = 2, 20, 16
	m := impl.Image{Banks: [][]int{first, second, last}}
	x := impl.Mem{Ram: make([]int, 512), Bank: 1}
	x.Ram[0], x.Ram[1], x.Ram[2], x.Ram[3], x.Ram[100], x.Ram[101], x.Ram[510], x.Ram[511] = 4, 9, 255, 12, 255, 8, 1, 29
	for _, e := range []struct {
		name        string
		pc, op, arg int
	}{
		{"two bytes", 0, 4, 9},
		{"two bytes, what is behind is not asked", 1, 9, 255},
		{"no op", 2, 255, 0},
		{"one byte", 3, 12, 0},
		{"no op, with bytes behind", 100, 255, 0},
		{"two bytes at the end of Ram", 510, 1, 29},
		{"three bytes over the end of Ram", 511, 29, 4 + 256*9},
		{"Ram again", 512, 4, 9},
		{"over another end of Ram", 1023, 29, 4 + 256*9},
		{"the last of Ram: the picture unit is behind", 8191, 29, 0},
		{"one ahead of it", 8190, 1, 29},
		{"the picture unit", 8192, 0, 0},
		{"the last of the picture unit", 16383, 0, 0},
		{"the sound unit", 16384, 0, 0},
		{"the pad", 16406, 0, 0},
		{"open", 32767, 0, 0},
		{"two bytes of the bank", 32768, 1, 200},
		{"three bytes of the bank", 32770, 3, 7},
		{"over the end of the bank", 32768 + 255, 19, 1 + 256*200},
		{"over the last end of the bank", 49151, 19, 100 + 256*101},
		{"no op in the last bank", 49152 + 10, 30, 0},
		{"two bytes of the last bank", 49152 + 11, 5, 6},
		{"two ahead of the end of the last bank, and one behind it", 49152 + 254, 20, 16 + 256*100},
		{"over the end of the last bank", 49152 + 255, 16, 100 + 256*101},
		{"the last three bytes", 65533, 2, 20 + 256*16},
		{"the last two bytes and the first", 65534, 20, 16 + 256*4},
		{"the last byte and the first two", 65535, 16, 4 + 256*9},
		{"-1", -1, 16, 4 + 256*9},
		{"-2", -2, 20, 16 + 256*4},
		{"-3", -3, 2, 20 + 256*16},
		{"65536", 65536, 4, 9},
		{"-65536", -65536, 4, 9},
		{"65536 and 511", 65536 + 511, 29, 4 + 256*9},
		{"the least", math.MinInt, 4, 9},
		{"one more than the least", math.MinInt + 1, 9, 255},
		{"the greatest", math.MaxInt, 16, 4 + 256*9},
		{"one less than the greatest", math.MaxInt - 1, 20, 16 + 256*4},
		{"two less than the greatest", math.MaxInt - 2, 2, 20 + 256*16},
	} {
		if got := impl.Fetch(m, x, e.pc); got != (impl.Instr{Op: e.op, Arg: e.arg}) {
			t.Errorf("%s: Fetch at %d = %+v, want %d %d", e.name, e.pc, got, e.op, e.arg)
		}
	}
}

// wantFetch goes by the bytes that Peek tells of memory that is MemOk.
func wantFetch(m impl.Image, x impl.Mem, pc int) impl.Instr {
	i := impl.Instr{Op: wantPeek(m, x, leftBy(pc, 65536))}
	factor := 1
	for k := 1; k < lenOf(i.Op); k++ {
		i.Arg += factor * wantPeek(m, x, leftBy(pc+k, 65536))
		factor *= 256
	}
	return i
}

func TestFetchAtEachAddress(t *testing.T) {
	for _, e := range []struct{ banks, bank int }{{1, 0}, {2, 0}, {8, 3}} {
		m, x := imageOf(e.banks), fullMem(e.bank)
		for pc := -5; pc < 65540; pc++ {
			if got, want := impl.Fetch(m, x, pc), wantFetch(m, x, pc); got != want {
				t.Fatalf("%d banks, Bank %d: Fetch at %d = %+v, want %+v", e.banks, e.bank, pc, got, want)
			}
		}
		for _, b := range byteEdges {
			if got, want := impl.Fetch(m, x, b.x), wantFetch(m, x, b.asAddr); got != want {
				t.Errorf("%d banks, Bank %d: Fetch at %d = %+v, want %+v", e.banks, e.bank, b.x, got, want)
			}
		}
	}
}

// Each byte as an op, where three bytes go over an end: each has its own length there.
func TestFetchOfEachByte(t *testing.T) {
	for b := range 256 {
		for _, pc := range []int{0, 255, 509, 510, 511, 8189, 8190, 8191, 32768, 32768 + 255, 49150, 49151, 49152, 49152 + 255, 65533, 65534, 65535} {
			m, x := imageOf(3), fullMem(1)
			switch region, part := wantRegion(pc); region {
			case impl.RgRam:
				x.Ram[part] = b
			case impl.RgBank:
				m.Banks[1][part] = b
			case impl.RgLast:
				m.Banks[2][part] = b
			}
			got, want := impl.Fetch(m, x, pc), wantFetch(m, x, pc)
			if got != want || got.Op != b {
				t.Errorf("Fetch of %d at %d = %+v, want %+v", b, pc, got, want)
			}
		}
	}
}

func TestFetchOfWhatIsNotRight(t *testing.T) {
	pcs := append([]int{65533, 65534, 509, 510}, someAddrs...)
	for _, pc := range pcs {
		for name, x := range wrongMems() {
			if got := impl.Fetch(imageOf(3), x, pc); got != (impl.Instr{}) {
				t.Errorf("%s: Fetch at %d = %+v, want all 0", name, pc, got)
			}
		}
		for name, m := range wrongImages() {
			if got := impl.Fetch(m, fullMem(0), pc); got != (impl.Instr{}) {
				t.Errorf("%s: Fetch at %d = %+v, want all 0", name, pc, got)
			}
		}
		if got := impl.Fetch(impl.Image{}, impl.Mem{}, pc); got != (impl.Instr{}) {
			t.Errorf("Fetch of nothing at %d = %+v", pc, got)
		}
	}
}

func TestAccessByHand(t *testing.T) {
	for _, e := range []struct {
		name         string
		arg, a, x    int
		kind, at, v0 int
	}{
		{"lda", 300, 7, 9, impl.AcRead, 300, 0},
		{"ada", 300, 7, 9, impl.AcRead, 300, 0},
		{"sta", 300, 7, 9, impl.AcWrite, 300, 7},
		{"lax", 300, 7, 9, impl.AcRead, 309, 0},
		{"sax", 300, 7, 9, impl.AcWrite, 309, 7},
		{"lda", 65535, 7, 255, impl.AcRead, 65535, 0},
		{"sta", 65535, 255, 255, impl.AcWrite, 65535, 255},
		{"lax", 65535, 7, 0, impl.AcRead, 65535, 0},
		{"lax", 65535, 7, 1, impl.AcRead, 0, 0},
		{"lax", 65535, 7, 255, impl.AcRead, 254, 0},
		{"sax", 65280, 7, 255, impl.AcWrite, 65535, 7},
		{"sax", 65281, 7, 255, impl.AcWrite, 0, 7},
		{"lax", 0, 7, -1, impl.AcRead, 65535, 0},
		{"sax", -1, 7, 0, impl.AcWrite, 65535, 7},
		{"sax", -3, 7, 2, impl.AcWrite, 65535, 7},
		{"sax", -3, 7, 3, impl.AcWrite, 0, 7},
		{"lax", 0, 7, 300, impl.AcRead, 300, 0},
		{"lax", 65536, 7, 65537, impl.AcRead, 1, 0},
		{"lax", math.MinInt, 7, 0, impl.AcRead, 0, 0},
		{"lax", math.MinInt, 7, -1, impl.AcRead, 65535, 0},
		{"sax", math.MinInt, 7, math.MinInt, impl.AcWrite, 0, 7},
		{"sax", math.MaxInt, 7, 1, impl.AcWrite, 0, 7},
		{"lax", math.MaxInt, 7, 255, impl.AcRead, 254, 0},
		{"lax", math.MaxInt, 7, math.MaxInt, impl.AcRead, 65534, 0},
		{"sta", 5, 256, 0, impl.AcWrite, 5, 0},
		{"sta", 5, -1, 0, impl.AcWrite, 5, 255},
		{"sax", 5, 511, 0, impl.AcWrite, 5, 255},
		{"sax", 5, math.MinInt, 0, impl.AcWrite, 5, 0},
		{"sta", 5, math.MaxInt, 0, impl.AcWrite, 5, 255},
		{"lda", 65536, 7, 9, impl.AcRead, 0, 0},
		{"sta", -1, 7, 9, impl.AcWrite, 65535, 7},
		{"ada", math.MinInt, 7, 9, impl.AcRead, 0, 0},
		{"lda", math.MaxInt, 7, 9, impl.AcRead, 65535, 0},
		{"nop", 300, 7, 9, 0, 0, 0},
		{"ldi", 300, 7, 9, 0, 0, 0},
		{"jmp", 300, 7, 9, 0, 0, 0},
		{"jsr", 300, 7, 9, 0, 0, 0},
		{"pha", 300, 7, 9, 0, 0, 0},
	} {
		kind, at, v := impl.Access(impl.Instr{Op: numberOf(e.name), Arg: e.arg}, impl.Cpu{A: e.a, X: e.x, S: 3, Pc: 4})
		if kind != e.kind || at != e.at || v != e.v0 {
			t.Errorf("Access of %s %d with A %d and X %d = %d, %d, %d, want %d, %d, %d", e.name, e.arg, e.a, e.x, kind, at, v, e.kind, e.at, e.v0)
		}
	}
}

// wantAccess works in parts that are addresses already, so that no sum of it goes beyond an int.
func wantAccess(i impl.Instr, c impl.Cpu) (int, int, int) {
	at := leftBy(i.Arg, 65536)
	switch nameOf(i.Op) {
	case "lda", "ada":
		return 1, at, 0
	case "sta":
		return 2, at, leftBy(c.A, 256)
	case "lax":
		return 1, (at + leftBy(c.X, 65536)) % 65536, 0
	case "sax":
		return 2, (at + leftBy(c.X, 65536)) % 65536, leftBy(c.A, 256)
	}
	return 0, 0, 0
}

func TestAccessOfEachOp(t *testing.T) {
	ops := noOps()
	for op := range 256 {
		ops = append(ops, op)
	}
	for _, op := range ops {
		for _, e := range byteEdges {
			for _, c := range someCpus() {
				i := impl.Instr{Op: op, Arg: e.x}
				kind, at, v := impl.Access(i, c)
				if wantKind, wantAt, wantV := wantAccess(i, c); kind != wantKind || at != wantAt || v != wantV {
					t.Fatalf("Access of %+v with %+v = %d, %d, %d, want %d, %d, %d", i, c, kind, at, v, wantKind, wantAt, wantV)
				}
			}
		}
	}
}

// execRow is an op by hand: Arg, what was read, the processor ahead of it and behind it. Memory stays.
type execRow struct {
	name   string
	arg, v int
	was    impl.Cpu
	want   impl.Cpu
}

func checkRows(t *testing.T, rows []execRow) {
	t.Helper()
	for _, e := range rows {
		x := fullMem(5)
		gotMem, got := impl.Exec(x, e.was, impl.Instr{Op: numberOf(e.name), Arg: e.arg}, e.v)
		if got != e.want {
			t.Errorf("%s %d, read %d, with %+v: %+v, want %+v", e.name, e.arg, e.v, e.was, got, e.want)
		}
		if !sameMem(gotMem, fullMem(5)) || !sameMem(x, fullMem(5)) {
			t.Errorf("%s %d turned memory", e.name, e.arg)
		}
	}
}

func TestLoadsByHand(t *testing.T) {
	all := impl.Cpu{A: 1, X: 2, S: 3, Pc: 100, Z: true, N: true, C: true, I: true}
	none := impl.Cpu{A: 1, X: 2, S: 3, Pc: 100}
	checkRows(t, []execRow{
		{"nop", 9, 9, all, impl.Cpu{A: 1, X: 2, S: 3, Pc: 101, Z: true, N: true, C: true, I: true}},
		{"nop", 9, 9, none, impl.Cpu{A: 1, X: 2, S: 3, Pc: 101}},
		{"sta", 9, 9, all, impl.Cpu{A: 1, X: 2, S: 3, Pc: 103, Z: true, N: true, C: true, I: true}},
		{"sax", 9, 9, none, impl.Cpu{A: 1, X: 2, S: 3, Pc: 103}},
		{"ldi", 9, 0, all, impl.Cpu{A: 9, X: 2, S: 3, Pc: 102, C: true, I: true}},
		{"ldi", 0, 9, all, impl.Cpu{A: 0, X: 2, S: 3, Pc: 102, Z: true, C: true, I: true}},
		{"ldi", 127, 9, none, impl.Cpu{A: 127, X: 2, S: 3, Pc: 102}},
		{"ldi", 128, 9, none, impl.Cpu{A: 128, X: 2, S: 3, Pc: 102, N: true}},
		{"ldi", 255, 9, none, impl.Cpu{A: 255, X: 2, S: 3, Pc: 102, N: true}},
		{"ldi", 256, 9, none, impl.Cpu{A: 0, X: 2, S: 3, Pc: 102, Z: true}},
		{"ldi", -1, 9, none, impl.Cpu{A: 255, X: 2, S: 3, Pc: 102, N: true}},
		{"ldi", math.MinInt, 9, none, impl.Cpu{A: 0, X: 2, S: 3, Pc: 102, Z: true}},
		{"ldi", math.MaxInt, 9, none, impl.Cpu{A: 255, X: 2, S: 3, Pc: 102, N: true}},
		{"lda", 9, 77, all, impl.Cpu{A: 77, X: 2, S: 3, Pc: 103, C: true, I: true}},
		{"lda", 9, 256, none, impl.Cpu{A: 0, X: 2, S: 3, Pc: 103, Z: true}},
		{"lda", 9, -128, none, impl.Cpu{A: 128, X: 2, S: 3, Pc: 103, N: true}},
		{"lax", 9, 0, none, impl.Cpu{A: 0, X: 2, S: 3, Pc: 103, Z: true}},
		{"lax", 9, 200, all, impl.Cpu{A: 200, X: 2, S: 3, Pc: 103, N: true, C: true, I: true}},
		{"lax", 9, math.MaxInt, none, impl.Cpu{A: 255, X: 2, S: 3, Pc: 103, N: true}},
		{"tax", 9, 9, all, impl.Cpu{A: 1, X: 1, S: 3, Pc: 101, C: true, I: true}},
		{"tax", 9, 9, impl.Cpu{A: 256, X: 2}, impl.Cpu{A: 256, X: 0, Pc: 1, Z: true}},
		{"tax", 9, 9, impl.Cpu{A: -1, X: 2}, impl.Cpu{A: -1, X: 255, Pc: 1, N: true}},
		{"txa", 9, 9, all, impl.Cpu{A: 2, X: 2, S: 3, Pc: 101, C: true, I: true}},
		{"txa", 9, 9, impl.Cpu{A: 9, X: 0}, impl.Cpu{A: 0, X: 0, Pc: 1, Z: true}},
		{"txa", 9, 9, impl.Cpu{A: 9, X: 384}, impl.Cpu{A: 128, X: 384, Pc: 1, N: true}},
		{"inx", 9, 9, all, impl.Cpu{A: 1, X: 3, S: 3, Pc: 101, C: true, I: true}},
		{"inx", 9, 9, impl.Cpu{X: 255}, impl.Cpu{X: 0, Pc: 1, Z: true}},
		{"inx", 9, 9, impl.Cpu{X: 127}, impl.Cpu{X: 128, Pc: 1, N: true}},
		{"inx", 9, 9, impl.Cpu{X: math.MaxInt}, impl.Cpu{X: 0, Pc: 1, Z: true}},
		{"dex", 9, 9, all, impl.Cpu{A: 1, X: 1, S: 3, Pc: 101, C: true, I: true}},
		{"dex", 9, 9, impl.Cpu{X: 0}, impl.Cpu{X: 255, Pc: 1, N: true}},
		{"dex", 9, 9, impl.Cpu{X: 1}, impl.Cpu{X: 0, Pc: 1, Z: true}},
		{"dex", 9, 9, impl.Cpu{X: 128}, impl.Cpu{X: 127, Pc: 1}},
		{"dex", 9, 9, impl.Cpu{X: math.MinInt}, impl.Cpu{X: 255, Pc: 1, N: true}},
	})
}

func TestSumsByHand(t *testing.T) {
	checkRows(t, []execRow{
		{"adi", 100, 9, impl.Cpu{A: 100, X: 7}, impl.Cpu{A: 200, X: 7, Pc: 2, N: true}},
		{"adi", 100, 9, impl.Cpu{A: 100, C: true, Z: true, I: true}, impl.Cpu{A: 201, Pc: 2, N: true, I: true}},
		{"adi", 55, 9, impl.Cpu{A: 200}, impl.Cpu{A: 255, Pc: 2, N: true}},
		{"adi", 55, 9, impl.Cpu{A: 200, C: true}, impl.Cpu{A: 0, Pc: 2, Z: true, C: true}},
		{"adi", 56, 9, impl.Cpu{A: 200}, impl.Cpu{A: 0, Pc: 2, Z: true, C: true}},
		{"adi", 0, 9, impl.Cpu{Z: true, N: true, C: true}, impl.Cpu{A: 1, Pc: 2}},
		{"adi", 255, 9, impl.Cpu{A: 255, C: true}, impl.Cpu{A: 255, Pc: 2, N: true, C: true}},
		{"adi", 256, 9, impl.Cpu{A: 256}, impl.Cpu{A: 0, Pc: 2, Z: true}},
		{"adi", -1, 9, impl.Cpu{A: -1}, impl.Cpu{A: 254, Pc: 2, N: true, C: true}},
		{"adi", math.MaxInt, 9, impl.Cpu{A: math.MaxInt, C: true}, impl.Cpu{A: 255, Pc: 2, N: true, C: true}},
		{"ada", 9, 100, impl.Cpu{A: 100, X: 7}, impl.Cpu{A: 200, X: 7, Pc: 3, N: true}},
		{"ada", 9, 55, impl.Cpu{A: 200, C: true, I: true}, impl.Cpu{A: 0, Pc: 3, Z: true, C: true, I: true}},
		{"ada", 9, 0, impl.Cpu{C: true}, impl.Cpu{A: 1, Pc: 3}},
		{"ada", 9, 300, impl.Cpu{A: 220}, impl.Cpu{A: 8, Pc: 3, C: true}},
		{"ada", 9, math.MinInt, impl.Cpu{A: 5, C: true}, impl.Cpu{A: 6, Pc: 3}},
		{"sbi", 30, 9, impl.Cpu{A: 100, X: 7, C: true}, impl.Cpu{A: 70, X: 7, Pc: 2, C: true}},
		{"sbi", 30, 9, impl.Cpu{A: 100, I: true}, impl.Cpu{A: 69, Pc: 2, C: true, I: true}},
		{"sbi", 30, 9, impl.Cpu{A: 30, C: true}, impl.Cpu{A: 0, Pc: 2, Z: true, C: true}},
		{"sbi", 30, 9, impl.Cpu{A: 30}, impl.Cpu{A: 255, Pc: 2, N: true}},
		{"sbi", 31, 9, impl.Cpu{A: 30, C: true}, impl.Cpu{A: 255, Pc: 2, N: true}},
		{"sbi", 255, 9, impl.Cpu{A: 0}, impl.Cpu{A: 0, Pc: 2, Z: true}},
		{"sbi", 256, 9, impl.Cpu{A: 256, C: true}, impl.Cpu{A: 0, Pc: 2, Z: true, C: true}},
		{"sbi", -1, 9, impl.Cpu{A: 511, C: true}, impl.Cpu{A: 0, Pc: 2, Z: true, C: true}},
		{"cpi", 30, 9, impl.Cpu{A: 30, X: 7}, impl.Cpu{A: 30, X: 7, Pc: 2, Z: true, C: true}},
		{"cpi", 30, 9, impl.Cpu{A: 30, C: true, N: true, I: true}, impl.Cpu{A: 30, Pc: 2, Z: true, C: true, I: true}},
		{"cpi", 31, 9, impl.Cpu{A: 30, C: true, Z: true}, impl.Cpu{A: 30, Pc: 2, N: true}},
		{"cpi", 29, 9, impl.Cpu{A: 30, Z: true, N: true}, impl.Cpu{A: 30, Pc: 2, C: true}},
		{"cpi", 200, 9, impl.Cpu{A: 10}, impl.Cpu{A: 10, Pc: 2}},
		{"cpi", 10, 9, impl.Cpu{A: 200}, impl.Cpu{A: 200, Pc: 2, N: true, C: true}},
		{"cpi", 256, 9, impl.Cpu{A: 0}, impl.Cpu{A: 0, Pc: 2, Z: true, C: true}},
		{"cpi", -1, 9, impl.Cpu{A: 511}, impl.Cpu{A: 511, Pc: 2, Z: true, C: true}},
		{"cpi", math.MinInt, 9, impl.Cpu{A: math.MaxInt}, impl.Cpu{A: math.MaxInt, Pc: 2, N: true, C: true}},
		{"ani", 0b1010, 9, impl.Cpu{A: 0b1100, C: true, I: true}, impl.Cpu{A: 0b1000, Pc: 2, C: true, I: true}},
		{"ori", 0b1010, 9, impl.Cpu{A: 0b1100, C: true, I: true}, impl.Cpu{A: 0b1110, Pc: 2, C: true, I: true}},
		{"xri", 0b1010, 9, impl.Cpu{A: 0b1100, C: true, I: true}, impl.Cpu{A: 0b0110, Pc: 2, C: true, I: true}},
		{"ani", 15, 9, impl.Cpu{A: 240}, impl.Cpu{A: 0, Pc: 2, Z: true}},
		{"ori", 128, 9, impl.Cpu{A: 1, Z: true}, impl.Cpu{A: 129, Pc: 2, N: true}},
		{"xri", 255, 9, impl.Cpu{A: 255, N: true}, impl.Cpu{A: 0, Pc: 2, Z: true}},
		{"ani", -1, 9, impl.Cpu{A: 511}, impl.Cpu{A: 255, Pc: 2, N: true}},
		{"ori", 256, 9, impl.Cpu{A: 512}, impl.Cpu{A: 0, Pc: 2, Z: true}},
		{"xri", math.MinInt, 9, impl.Cpu{A: -2}, impl.Cpu{A: 254, Pc: 2, N: true}},
	})
}

func TestJumpsAndFlagsByHand(t *testing.T) {
	all := impl.Cpu{A: 1, X: 2, S: 3, Pc: 100, Z: true, N: true, C: true, I: true}
	none := impl.Cpu{A: 1, X: 2, S: 3, Pc: 100}
	at := func(c impl.Cpu, pc int) impl.Cpu {
		c.Pc = pc
		return c
	}
	rows := []execRow{
		{"bne", 5000, 9, all, at(all, 103)},
		{"bne", 5000, 9, none, at(none, 5000)},
		{"beq", 5000, 9, all, at(all, 5000)},
		{"beq", 5000, 9, none, at(none, 103)},
		{"bcs", 5000, 9, all, at(all, 5000)},
		{"bcs", 5000, 9, none, at(none, 103)},
		{"jmp", 5000, 9, all, at(all, 5000)},
		{"jmp", 5000, 9, none, at(none, 5000)},
		{"bne", 5000, 9, impl.Cpu{C: true, N: true, I: true}, impl.Cpu{Pc: 5000, C: true, N: true, I: true}},
		{"beq", 5000, 9, impl.Cpu{C: true, N: true, I: true}, impl.Cpu{Pc: 3, C: true, N: true, I: true}},
		{"bcs", 5000, 9, impl.Cpu{Z: true, N: true, I: true}, impl.Cpu{Pc: 3, Z: true, N: true, I: true}},
		{"sei", 9, 9, none, impl.Cpu{A: 1, X: 2, S: 3, Pc: 101, I: true}},
		{"sei", 9, 9, all, at(all, 101)},
		{"cli", 9, 9, none, at(none, 101)},
		{"cli", 9, 9, all, impl.Cpu{A: 1, X: 2, S: 3, Pc: 101, Z: true, N: true, C: true}},
		{"sec", 9, 9, none, impl.Cpu{A: 1, X: 2, S: 3, Pc: 101, C: true}},
		{"sec", 9, 9, all, at(all, 101)},
		{"clc", 9, 9, none, at(none, 101)},
		{"clc", 9, 9, all, impl.Cpu{A: 1, X: 2, S: 3, Pc: 101, Z: true, N: true, I: true}},
	}
	for _, name := range []string{"bne", "jmp"} {
		for _, e := range byteEdges {
			rows = append(rows, execRow{name, e.x, 9, none, at(none, e.asAddr)})
		}
	}
	for _, name := range []string{"beq", "bcs"} {
		for _, e := range byteEdges {
			rows = append(rows, execRow{name, e.x, 9, all, at(all, e.asAddr)})
		}
	}
	checkRows(t, rows)
}

// Pc goes on by the length of the op, whatever was there, and round at 65536.
func TestExecGoesOn(t *testing.T) {
	for _, w := range opTable {
		switch w.name {
		case "bne", "beq", "bcs", "jmp", "jsr", "rts", "rti":
			continue
		}
		for _, pc := range []int{0, 49152, 65532, 65533, 65534, 65535, 65536, 131071, -1, -2, -3, -4, -65536} {
			_, got := impl.Exec(impl.MemNew(), impl.Cpu{Pc: pc}, impl.Instr{Op: w.op}, 0)
			want := pc + w.bytes
			for want > 65535 {
				want -= 65536
			}
			for want < 0 {
				want += 65536
			}
			if got.Pc != want {
				t.Errorf("%s at %d: Pc is %d, want %d", w.name, pc, got.Pc, want)
			}
		}
		if _, got := impl.Exec(impl.MemNew(), impl.Cpu{Pc: math.MaxInt}, impl.Instr{Op: w.op}, 0); got.Pc != w.bytes-1 {
			t.Errorf("%s at the greatest: Pc is %d", w.name, got.Pc)
		}
		if _, got := impl.Exec(impl.MemNew(), impl.Cpu{Pc: math.MinInt}, impl.Instr{Op: w.op}, 0); got.Pc != w.bytes {
			t.Errorf("%s at the least: Pc is %d", w.name, got.Pc)
		}
	}
}

func TestExecOfEachOp(t *testing.T) {
	mems := []impl.Mem{fullMem(2), impl.MemNew(), {Ram: ramWith(300, 256), Bank: -1}, {}}
	for op := -1; op <= 31; op++ {
		for n, c := range someCpus() {
			for k, e := range byteEdges {
				other := byteEdges[(k*7+n)%len(byteEdges)].x
				x := mems[(n+k)%len(mems)]
				checkExec(t, x, c, impl.Instr{Op: op, Arg: e.x}, other)
			}
		}
	}
}

// All bytes in A and beside it, with the carry both ways, for the ops that make A of both.
func TestExecOfAllBytes(t *testing.T) {
	x := impl.MemNew()
	for _, name := range []string{"adi", "sbi", "ani", "ori", "xri", "cpi", "ada"} {
		op := numberOf(name)
		for a := 0; a < 256; a++ {
			for b := a % 3; b < 256; b += 3 {
				for _, carry := range bothCarries {
					c := impl.Cpu{A: a, X: b, S: 1, Pc: 2, C: carry, Z: b%2 == 0, N: a%2 == 0}
					_, got := impl.Exec(x, c, impl.Instr{Op: op, Arg: b}, b)
					if _, want := wantExec(impl.Mem{}, c, impl.Instr{Op: op, Arg: b}, b); got != want {
						t.Fatalf("%s %d with %+v: %+v, want %+v", name, b, c, got, want)
					}
				}
			}
		}
	}
}

func TestExecOfWhatIsNoOp(t *testing.T) {
	x := fullMem(3)
	for k, op := range append(noOps(), 30, -1, 255, math.MinInt, math.MaxInt) {
		for n, c := range someCpus() {
			if (k+n)%7 != 0 {
				continue
			}
			gotMem, got := impl.Exec(x, c, impl.Instr{Op: op, Arg: 77}, 88)
			want := c
			want.Pc = leftBy(c.Pc+1, 65536)
			checkConsole(t, "no op", gotMem, got, x, want)
		}
	}
}

// ramPut is fullMem with bytes at places, in turns of a place and a byte.
func ramPut(list ...int) impl.Mem {
	x := fullMem(1)
	for k := 0; k < len(list); k += 2 {
		x.Ram[list[k]] = list[k+1]
	}
	return x
}

func TestStackOpsByHand(t *testing.T) {
	all := impl.Cpu{A: 9, X: 8, Z: true, N: true, C: true, I: true}
	none := impl.Cpu{A: 9, X: 8}
	with := func(c impl.Cpu, s int, pc int) impl.Cpu {
		c.S, c.Pc = s, pc
		return c
	}
	a := func(v int, z bool, n bool, s int) impl.Cpu {
		return impl.Cpu{A: v, X: 8, S: s, Pc: 4661, Z: z, N: n, C: true, I: true}
	}
	for _, e := range []struct {
		name    string
		arg     int
		was     impl.Mem
		c       impl.Cpu
		want    impl.Mem
		wantCpu impl.Cpu
	}{
		{"jsr", 5000, ramPut(), with(all, 255, 4660), ramPut(511, 18, 510, 55), with(all, 253, 5000)},
		{"jsr", 5000, ramPut(), with(none, 254, 4660), ramPut(510, 18, 509, 55), with(none, 252, 5000)},
		{"jsr", 5000, ramPut(), with(all, 2, 4660), ramPut(258, 18, 257, 55), with(all, 0, 5000)},
		{"jsr", 5000, ramPut(), with(all, 1, 4660), ramPut(257, 18, 256, 55), with(all, 255, 5000)},
		{"jsr", 5000, ramPut(), with(all, 0, 4660), ramPut(256, 18, 511, 55), with(all, 254, 5000)},
		{"jsr", 65536, ramPut(), with(all, 255, 253), ramPut(511, 1, 510, 0), with(all, 253, 0)},
		{"jsr", -1, ramPut(), with(all, 255, 252), ramPut(511, 0, 510, 255), with(all, 253, 65535)},
		{"jsr", 7, ramPut(), with(all, 255, 65532), ramPut(511, 255, 510, 255), with(all, 253, 7)},
		{"jsr", 7, ramPut(), with(all, 255, 65533), ramPut(511, 0, 510, 0), with(all, 253, 7)},
		{"jsr", 7, ramPut(), with(all, -1, -4), ramPut(511, 255, 510, 255), with(all, 253, 7)},
		{"jsr", 7, ramPut(), with(all, 256, -259), ramPut(256, 255, 511, 0), with(all, 254, 7)},
		{"rts", 7, ramPut(510, 55, 511, 18), with(all, 253, 1), ramPut(510, 55, 511, 18), with(all, 255, 4663)},
		{"rts", 7, ramPut(511, 55, 256, 18), with(none, 254, 1), ramPut(511, 55, 256, 18), with(none, 0, 4663)},
		{"rts", 7, ramPut(256, 55, 257, 18), with(all, 255, 1), ramPut(256, 55, 257, 18), with(all, 1, 4663)},
		{"rts", 7, ramPut(257, 255, 258, 255), with(all, 0, 1), ramPut(257, 255, 258, 255), with(all, 2, 65535)},
		{"rts", 7, ramPut(258, 0, 259, 1), with(all, 1, 1), ramPut(258, 0, 259, 1), with(all, 3, 256)},
		{"rts", 7, ramPut(259, 1, 260, 0), with(all, 2, 1), ramPut(259, 1, 260, 0), with(all, 4, 1)},
		{"rts", 7, ramPut(256, 55, 257, 18), with(all, math.MaxInt, 1), ramPut(256, 55, 257, 18), with(all, 1, 4663)},
		{"pha", 7, ramPut(), with(all, 255, 4660), ramPut(511, 9), with(all, 254, 4661)},
		{"pha", 7, ramPut(), with(none, 254, 4660), ramPut(510, 9), with(none, 253, 4661)},
		{"pha", 7, ramPut(), with(all, 2, 4660), ramPut(258, 9), with(all, 1, 4661)},
		{"pha", 7, ramPut(), with(all, 1, 4660), ramPut(257, 9), with(all, 0, 4661)},
		{"pha", 7, ramPut(), with(all, 0, 4660), ramPut(256, 9), with(all, 255, 4661)},
		{"pha", 7, ramPut(), with(all, math.MinInt, 4660), ramPut(256, 9), with(all, 255, 4661)},
		{"pha", 7, ramPut(), impl.Cpu{A: -1, S: 3}, ramPut(259, 255), impl.Cpu{A: -1, S: 2, Pc: 1}},
		{"pha", 7, ramPut(), impl.Cpu{A: 256, S: 3}, ramPut(259, 0), impl.Cpu{A: 256, S: 2, Pc: 1}},
		{"pla", 7, ramPut(511, 0), with(all, 254, 4660), ramPut(511, 0), a(0, true, false, 255)},
		{"pla", 7, ramPut(256, 127), with(all, 255, 4660), ramPut(256, 127), a(127, false, false, 0)},
		{"pla", 7, ramPut(257, 128), with(all, 0, 4660), ramPut(257, 128), a(128, false, true, 1)},
		{"pla", 7, ramPut(258, 255), with(all, 1, 4660), ramPut(258, 255), a(255, false, true, 2)},
		{"pla", 7, ramPut(259, 1), with(all, 2, 4660), ramPut(259, 1), a(1, false, false, 3)},
		{"pla", 7, ramPut(256, 5), with(all, -1, 4660), ramPut(256, 5), a(5, false, false, 0)},
		{"rti", 7, ramPut(509, 131, 510, 55, 511, 18), with(none, 252, 1), ramPut(509, 131, 510, 55, 511, 18), impl.Cpu{A: 9, X: 8, S: 255, Pc: 4663, Z: true, N: true, C: true}},
		{"rti", 7, ramPut(511, 4, 256, 55, 257, 18), with(all, 254, 1), ramPut(511, 4, 256, 55, 257, 18), impl.Cpu{A: 9, X: 8, S: 1, Pc: 4663, I: true}},
		{"rti", 7, ramPut(256, 120, 257, 55, 258, 18), with(all, 255, 1), ramPut(256, 120, 257, 55, 258, 18), impl.Cpu{A: 9, X: 8, S: 2, Pc: 4663}},
		{"rti", 7, ramPut(257, 255, 258, 0, 259, 1), with(none, 0, 1), ramPut(257, 255, 258, 0, 259, 1), with(all, 3, 256)},
		{"rti", 7, ramPut(258, 1, 259, 255, 260, 0), with(all, 1, 1), ramPut(258, 1, 259, 255, 260, 0), impl.Cpu{A: 9, X: 8, S: 4, Pc: 255, C: true}},
		{"rti", 7, ramPut(259, 2, 260, 255, 261, 255), with(all, 2, 1), ramPut(259, 2, 260, 255, 261, 255), impl.Cpu{A: 9, X: 8, S: 5, Pc: 65535, Z: true}},
		{"rti", 7, ramPut(256, 128, 257, 2, 258, 3), with(all, -257, 1), ramPut(256, 128, 257, 2, 258, 3), impl.Cpu{A: 9, X: 8, S: 2, Pc: 770, N: true}},
	} {
		got, gotCpu := impl.Exec(e.was, e.c, impl.Instr{Op: numberOf(e.name), Arg: e.arg}, 66)
		checkConsole(t, e.name, got, gotCpu, e.want, e.wantCpu)
	}
}

func TestStackOpsAtEachS(t *testing.T) {
	x := fullMem(0)
	for _, name := range []string{"jsr", "rts", "pha", "pla", "rti"} {
		for s := -300; s <= 600; s++ {
			checkExec(t, x, impl.Cpu{A: s + 7, X: 3, S: s, Pc: 40000 + s*97, C: s%2 == 0, Z: s%3 == 0}, impl.Instr{Op: numberOf(name), Arg: s * 77}, 5)
		}
		for _, c := range someCpus() {
			checkExec(t, x, c, impl.Instr{Op: numberOf(name), Arg: 4000}, 5)
		}
	}
}

// Without RamSize bytes nothing is pushed, and what is pulled is 0.
func TestStackOpsWithoutRamSizeBytes(t *testing.T) {
	for name, ram := range wrongRams() {
		for _, s := range []int{0, 1, 2, 254, 255, 256, -1, math.MinInt, math.MaxInt} {
			x := impl.Mem{Ram: ram, Bank: 7}
			was := copyOfMem(x)
			c := impl.Cpu{A: 300, X: -1, S: s, Pc: 40000, Z: false, N: true, C: true, I: true}
			for _, e := range []struct {
				op   string
				want impl.Cpu
			}{
				{"jsr", impl.Cpu{A: 300, X: -1, S: s, Pc: 5000, N: true, C: true, I: true}},
				{"rts", impl.Cpu{A: 300, X: -1, S: s, Pc: 0, N: true, C: true, I: true}},
				{"pha", impl.Cpu{A: 300, X: -1, S: s, Pc: 40001, N: true, C: true, I: true}},
				{"pla", impl.Cpu{A: 0, X: -1, S: s, Pc: 40001, Z: true, C: true, I: true}},
				{"rti", impl.Cpu{A: 300, X: -1, S: s, Pc: 0}},
			} {
				got, gotCpu := impl.Exec(x, c, impl.Instr{Op: numberOf(e.op), Arg: 5000}, 66)
				checkConsole(t, e.op+", Ram "+name, got, gotCpu, was, e.want)
			}
			for op := range impl.Ops {
				checkExec(t, x, c, impl.Instr{Op: op, Arg: 70000}, 66)
			}
		}
	}
}

func TestP7WhatIsEnteredIsComeBackFrom(t *testing.T) {
	m := imageOf(2)
	rti := impl.Instr{Op: numberOf("rti")}
	pcs := []int{0, 1, 255, 256, 257, 4660, 32767, 32768, 65280, 65534, 65535}
	for _, vector := range []int{impl.VecNmi, impl.VecReset, impl.VecIrq, 0, 300, 65535} {
		for s := range 256 {
			for _, f := range flagSets {
				pc := pcs[(s+f.told)%len(pcs)]
				c := impl.Cpu{A: 200, X: 100, S: s, Pc: pc, C: f.c, Z: f.z, I: f.i, N: f.n}
				x, in := impl.Enter(m, fullMem(1), c, vector)
				if _, back := impl.Exec(x, in, rti, 66); back != c {
					t.Fatalf("entered at %d with %+v, come back from as %+v", vector, c, back)
				}
			}
		}
		for _, s := range []int{0, 1, 2, 255} {
			for _, pc := range pcs {
				for _, f := range flagSets {
					c := impl.Cpu{A: 1, X: 2, S: s, Pc: pc, C: f.c, Z: f.z, I: f.i, N: f.n}
					x, in := impl.Enter(m, impl.MemNew(), c, vector)
					if _, back := impl.Exec(x, in, rti, 66); back != c {
						t.Fatalf("entered at %d with %+v, come back from as %+v", vector, c, back)
					}
				}
			}
		}
	}
}

func TestP7WhatIsCalledIsComeBackFrom(t *testing.T) {
	jsr, rts := impl.Instr{Op: numberOf("jsr"), Arg: 777}, impl.Instr{Op: numberOf("rts")}
	check := func(c impl.Cpu) {
		t.Helper()
		x, in := impl.Exec(fullMem(1), c, jsr, 66)
		if in.Pc != 777 {
			t.Fatalf("called with %+v: Pc is %d", c, in.Pc)
		}
		want := c
		want.Pc += 3
		if want.Pc > 65535 {
			want.Pc -= 65536
		}
		if _, back := impl.Exec(x, in, rts, 66); back != want {
			t.Fatalf("called with %+v, come back from as %+v", c, back)
		}
	}
	for s := range 256 {
		for _, pc := range []int{0, 252, 253, 255, 256, 4660, 65531, 65532, 65533, 65534, 65535} {
			f := flagSets[(s+pc)%len(flagSets)]
			check(impl.Cpu{A: 1, X: 2, S: s, Pc: pc, C: f.c, Z: f.z, I: f.i, N: f.n})
		}
	}
	for pc := 0; pc < 65536; pc += 11 {
		check(impl.Cpu{A: 255, X: 254, S: 253, Pc: pc, C: true})
	}
}

// One within the other: what was entered or called last is come back from first, with what was pushed meanwhile pulled.
func TestP7OneWithinTheOther(t *testing.T) {
	m, x := imageOf(1), fullMem(0)
	c := impl.Cpu{A: 17, X: 4, S: 200, Pc: 50000, Z: true}
	var were []impl.Cpu
	for k := range 60 {
		c.A, c.X, c.Z, c.N, c.C, c.I = k, 255-k, k%2 == 0, k%3 == 0, k%5 == 0, k%7 == 0
		c.Pc = k*1091 + 3
		were = append(were, c)
		if k%2 == 0 {
			x, c = impl.Enter(m, x, c, impl.VecIrq)
			x, c = impl.Exec(x, c, impl.Instr{Op: numberOf("pha")}, 0)
		} else {
			x, c = impl.Exec(x, c, impl.Instr{Op: numberOf("jsr"), Arg: 9}, 0)
		}
	}
	for k := 59; k >= 0; k-- {
		was := were[k]
		if k%2 == 0 {
			x, c = impl.Exec(x, c, impl.Instr{Op: numberOf("pla")}, 0)
			if c.A != was.A {
				t.Fatalf("%d: A is %d, want %d", k, c.A, was.A)
			}
			x, c = impl.Exec(x, c, impl.Instr{Op: numberOf("rti")}, 0)
		} else {
			x, c = impl.Exec(x, c, impl.Instr{Op: numberOf("rts")}, 0)
			was.Pc += 3
			was.Z, was.N, was.C, was.I = c.Z, c.N, c.C, c.I
		}
		was.A, was.X = c.A, c.X
		if c != was {
			t.Fatalf("%d: come back from as %+v, want %+v", k, c, was)
		}
	}
}

func TestEnterByHand(t *testing.T) {
	bank := make([]int, 256)
	bank[250], bank[251], bank[252], bank[253], bank[254], bank[255] = 128, 192, 1, 2, 160, 193
	m := impl.Image{Banks: [][]int{make([]int, 256), bank}}
	flags := impl.Cpu{A: 9, X: 8, Z: true, C: true}
	with := func(s int, pc int, i bool) impl.Cpu {
		c := flags
		c.S, c.Pc, c.I = s, pc, i
		return c
	}
	for _, e := range []struct {
		c       impl.Cpu
		vector  int
		want    impl.Mem
		wantCpu impl.Cpu
	}{
		{with(255, 4660, false), impl.VecNmi, ramPut(511, 18, 510, 52, 509, 3), with(252, 49280, true)},
		{with(255, 4660, true), impl.VecNmi, ramPut(511, 18, 510, 52, 509, 7), with(252, 49280, true)},
		{with(255, 4660, false), impl.VecReset, ramPut(511, 18, 510, 52, 509, 3), with(252, 513, true)},
		{with(255, 4660, false), impl.VecIrq, ramPut(511, 18, 510, 52, 509, 3), with(252, 49568, true)},
		{with(2, 255, false), impl.VecIrq, ramPut(258, 0, 257, 255, 256, 3), with(255, 49568, true)},
		{with(1, 256, false), impl.VecIrq, ramPut(257, 1, 256, 0, 511, 3), with(254, 49568, true)},
		{with(0, 65535, false), impl.VecIrq, ramPut(256, 255, 511, 255, 510, 3), with(253, 49568, true)},
		{with(-1, 0, false), impl.VecIrq, ramPut(511, 0, 510, 0, 509, 3), with(252, 49568, true)},
		{with(256, -1, false), impl.VecIrq, ramPut(256, 255, 511, 255, 510, 3), with(253, 49568, true)},
		{with(255, -256, false), impl.VecIrq, ramPut(511, 255, 510, 0, 509, 3), with(252, 49568, true)},
		{with(255, -257, false), impl.VecIrq, ramPut(511, 254, 510, 255, 509, 3), with(252, 49568, true)},
		{with(255, 65536+513, false), impl.VecIrq, ramPut(511, 2, 510, 1, 509, 3), with(252, 49568, true)},
		{with(math.MinInt, math.MinInt, false), impl.VecIrq, ramPut(256, 0, 511, 0, 510, 3), with(253, 49568, true)},
		{with(math.MaxInt, math.MaxInt, false), impl.VecIrq, ramPut(511, 255, 510, 255, 509, 3), with(252, 49568, true)},
		{with(255, 4660, false), 65535, ramPut(511, 18, 510, 52, 509, 3), with(252, 193+256*1, true)},
		{with(255, 4660, false), -1, ramPut(511, 18, 510, 52, 509, 3), with(252, 193+256*1, true)},
		{with(255, 4660, false), math.MaxInt, ramPut(511, 18, 510, 52, 509, 3), with(252, 193+256*1, true)},
		{with(255, 4660, false), 65536 + 65530, ramPut(511, 18, 510, 52, 509, 3), with(252, 49280, true)},
		{with(255, 4660, false), -6, ramPut(511, 18, 510, 52, 509, 3), with(252, 49280, true)},
		{with(255, 4660, false), 0, ramPut(511, 18, 510, 52, 509, 3), with(252, 1+256*8, true)},
		{with(255, 4660, false), math.MinInt, ramPut(511, 18, 510, 52, 509, 3), with(252, 1+256*8, true)},
		{with(255, 4660, false), 8192, ramPut(511, 18, 510, 52, 509, 3), with(252, 0, true)},
		{with(255, 4660, false), 510, ramPut(511, 18, 510, 52, 509, 3), with(252, 4660, true)},
		{with(255, 4660, false), 509, ramPut(511, 18, 510, 52, 509, 3), with(252, 3+256*52, true)},
	} {
		x := ramPut()
		got, gotCpu := impl.Enter(m, x, e.c, e.vector)
		checkConsole(t, "Enter", got, gotCpu, e.want, e.wantCpu)
		if !sameMem(x, ramPut()) {
			t.Fatal("Enter wrote into its argument")
		}
	}
}

// wantEnter is what the chapter says of Enter; ok is whether the image and memory are MemOk.
func wantEnter(m impl.Image, x impl.Mem, c impl.Cpu, vector int, ok bool) (impl.Mem, impl.Cpu) {
	w := consoleOf(x, c)
	w.pushPc()
	w.push(one(c.C) + 2*one(c.Z) + 4*one(c.I) + 128*one(c.N))
	w.cpu.I = true
	w.cpu.Pc = 0
	if ok {
		w.cpu.Pc = wantPeek(m, w.mem, leftBy(vector, 65536)) + 256*wantPeek(m, w.mem, leftBy(vector+1, 65536))
	}
	return w.mem, w.cpu
}

func TestEnterOfEachKind(t *testing.T) {
	for _, e := range []struct{ banks, bank int }{{1, 0}, {3, 1}} {
		m := imageOf(e.banks)
		for n, c := range someCpus() {
			for k, vector := range append([]int{65530, 65531, 65532, 65533, 65534}, someAddrs...) {
				x := fullMem(e.bank)
				x.Ram[0] = (n + k) % 256
				wantMem, wantCpu := wantEnter(m, x, c, vector, true)
				got, gotCpu := impl.Enter(m, x, c, vector)
				checkConsole(t, "Enter", got, gotCpu, wantMem, wantCpu)
			}
		}
	}
}

// What is pushed hangs on Ram alone; where it is led to is 0 where it is not MemOk.
func TestEnterOfWhatIsNotRight(t *testing.T) {
	for _, vector := range []int{impl.VecNmi, impl.VecReset, impl.VecIrq, 0, 510, 32768, -1, math.MinInt, math.MaxInt} {
		for k, c := range someCpus() {
			if k%5 != 0 {
				continue
			}
			for name, x := range wrongMems() {
				wantMem, wantCpu := wantEnter(imageOf(3), x, c, vector, false)
				got, gotCpu := impl.Enter(imageOf(3), x, c, vector)
				checkConsole(t, "Enter, "+name, got, gotCpu, wantMem, wantCpu)
			}
			for name, m := range wrongImages() {
				wantMem, wantCpu := wantEnter(m, fullMem(1), c, vector, false)
				got, gotCpu := impl.Enter(m, fullMem(1), c, vector)
				checkConsole(t, "Enter, "+name, got, gotCpu, wantMem, wantCpu)
			}
		}
	}
	c := impl.Cpu{A: 300, X: -1, S: 300, Pc: 70000, N: true}
	want := impl.Cpu{A: 300, X: -1, S: 300, N: true, I: true}
	if x, got := impl.Enter(impl.Image{}, impl.Mem{}, c, impl.VecNmi); got != want || len(x.Ram) != 0 || x.Bank != 0 {
		t.Errorf("Enter of nothing: %+v", got)
	}
}

func TestCpuNew(t *testing.T) {
	for n := 1; n <= impl.MaxBanks; n++ {
		m := imageOf(n)
		last := m.Banks[n-1]
		if got, want := impl.CpuNew(m), (impl.Cpu{S: 255, I: true, Pc: last[252] + 256*last[253]}); got != want {
			t.Errorf("%d banks: CpuNew = %+v, want %+v", n, got, want)
		}
		for _, e := range []struct{ lo, hi, pc int }{{0, 0, 0}, {255, 0, 255}, {0, 1, 256}, {0, 192, 49152}, {255, 255, 65535}} {
			last[252], last[253] = e.lo, e.hi
			if got := impl.CpuNew(m); got != (impl.Cpu{S: 255, I: true, Pc: e.pc}) {
				t.Errorf("%d banks: CpuNew = %+v, want Pc %d", n, got, e.pc)
			}
			if !impl.CpuOk(impl.CpuNew(m)) {
				t.Errorf("%d banks: CpuNew is not CpuOk", n)
			}
		}
	}
	for name, m := range wrongImages() {
		if got := impl.CpuNew(m); got != (impl.Cpu{S: 255, I: true}) {
			t.Errorf("%s: CpuNew = %+v", name, got)
		}
	}
}

// A program by hand: it adds 3 to a byte of Ram by a call, as often as X says, and ends in a loop of its own.
func TestAProgramRuns(t *testing.T) {
	bank, fault := impl.Assemble("ldi 5\ntax\njsr 49184\ndex\nbne 49155\njmp 49162\nat 32\nlda 7\nclc\nadi 3\npha\nsta 7\npla\nrts\nat 252\nbyte 0\nbyte 192\n")
	if fault != 0 {
		t.Fatal("the program is none", fault)
	}
	m := impl.Image{Banks: [][]int{bank}}
	x, c := impl.MemNew(), impl.CpuNew(m)
	x.Ram[7] = 245
	for range 100 {
		i := impl.Fetch(m, x, c.Pc)
		v := 0
		switch kind, at, put := impl.Access(i, c); kind {
		case impl.AcRead:
			v = impl.Peek(m, x, at)
		case impl.AcWrite:
			x = impl.Poke(m, x, at, put)
		}
		x, c = impl.Exec(x, c, i, v)
	}
	want := impl.Cpu{A: 4, X: 0, S: 255, Pc: 49162, Z: true, I: true}
	if c != want || x.Ram[7] != 4 {
		t.Errorf("behind the program: %+v, %d, want %+v, 4", c, x.Ram[7], want)
	}
}

func TestExecArgumentsStayAsTheyWere(t *testing.T) {
	full := fullMem(0).Ram
	for _, ram := range [][]int{full, full[:511], full[:256], full[:0]} {
		m, cleanImage := roomyImage()
		wasImage := copyImage(m)
		x, clean := roomyMem(ram, 1)
		was := copyOfMem(x)
		impl.CpuNew(m)
		for _, at := range someAddrs {
			impl.Fetch(m, x, at)
			for _, s := range []int{0, 1, 2, 100, 255} {
				impl.Enter(m, x, impl.Cpu{S: s, Pc: 1234, C: true}, at)
			}
		}
		for op := -1; op <= impl.Ops; op++ {
			for s := range 256 {
				impl.Exec(x, impl.Cpu{A: 66, S: s, Pc: 1234}, impl.Instr{Op: op, Arg: 66}, 66)
			}
		}
		if !sameMem(x, was) || !clean() {
			t.Errorf("a Mem of %d numbers that was handed in was written into", len(ram))
		}
		if !sameImage(m, wasImage) || !cleanImage() {
			t.Error("an image that was handed in was written into")
		}
	}
}

func TestExecAnswersAreNewMemory(t *testing.T) {
	rams := map[string]func() []int{
		"right":     func() []int { return fullMem(0).Ram },
		"too short": func() []int { return fullMem(0).Ram[:511] },
		"too long":  func() []int { return append(fullMem(0).Ram, 1) },
		"with 256":  func() []int { return ramWith(300, 256) },
		"empty":     func() []int { return fullMem(0).Ram[:0] },
	}
	for name, ram := range rams {
		for op := -1; op <= impl.Ops; op++ {
			checkNewMem(t, "Exec of "+nameOf(op)+", Ram "+name, impl.Mem{Ram: ram(), Bank: 1}, func(x impl.Mem) impl.Mem {
				got, _ := impl.Exec(x, impl.Cpu{A: 5, S: 44, Pc: 300}, impl.Instr{Op: op, Arg: 5}, 6)
				return got
			})
		}
		for _, m := range []impl.Image{imageOf(2), {}} {
			checkNewMem(t, "Enter, Ram "+name, impl.Mem{Ram: ram(), Bank: 1}, func(x impl.Mem) impl.Mem {
				got, _ := impl.Enter(m, x, impl.Cpu{A: 5, S: 44, Pc: 300}, impl.VecIrq)
				return got
			})
		}
	}
}
