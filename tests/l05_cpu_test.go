package tests

import (
	"math"
	"testing"

	"loop.example/g00231/impl"
)

// flagSets: each set of flags with the byte that tells it, written by hand.
var flagSets = []struct {
	c, z, i, n bool
	told       int
}{
	{false, false, false, false, 0},
	{true, false, false, false, 1},
	{false, true, false, false, 2},
	{true, true, false, false, 3},
	{false, false, true, false, 4},
	{true, false, true, false, 5},
	{false, true, true, false, 6},
	{true, true, true, false, 7},
	{false, false, false, true, 128},
	{true, false, false, true, 129},
	{false, true, false, true, 130},
	{true, true, false, true, 131},
	{false, false, true, true, 132},
	{true, false, true, true, 133},
	{false, true, true, true, 134},
	{true, true, true, true, 135},
}

// someRegisters: processors without flags, right ones and raw ones; no two registers of one are the same,
// but where all are, so that none can stand for another.
var someRegisters = []impl.Cpu{
	{},
	{A: 1, X: 2, S: 3, Pc: 4},
	{A: 255, X: 254, S: 253, Pc: 65535},
	{A: 128, X: 127, S: 255, Pc: 32768},
	{A: 256, X: 257, S: 258, Pc: 65536},
	{A: -1, X: -2, S: -3, Pc: -4},
	{A: -256, X: -255, S: -128, Pc: -65536},
	{A: 65537, X: 65538, S: -65537, Pc: 1 << 40},
	{A: math.MinInt, X: math.MinInt + 1, S: math.MaxInt, Pc: math.MaxInt - 1},
	{A: math.MaxInt, X: math.MaxInt - 1, S: math.MinInt, Pc: math.MinInt + 1},
	{A: math.MinInt, X: math.MinInt, S: math.MinInt, Pc: math.MinInt},
	{A: math.MaxInt, X: math.MaxInt, S: math.MaxInt, Pc: math.MaxInt},
}

// someCpus: someRegisters with each set of flags.
func someCpus() []impl.Cpu {
	var list []impl.Cpu
	for _, c := range someRegisters {
		for _, f := range flagSets {
			c.C, c.Z, c.I, c.N = f.c, f.z, f.i, f.n
			list = append(list, c)
		}
	}
	return list
}

// flagged is c with flags by a byte, bit by bit by plain counting.
func flagged(c impl.Cpu, b int) impl.Cpu {
	c.C = b%2 == 1
	c.Z = b/2%2 == 1
	c.I = b/4%2 == 1
	c.N = b/128 == 1
	return c
}

// toldOf is what is left of a byte where only the bits 1, 2, 4 and 128 are told.
func toldOf(b int) int { return b%8 + b/128*128 }

func checkWithFlags(t *testing.T, c impl.Cpu, flags int, asByte int) {
	t.Helper()
	got, want := impl.WithFlags(c, flags), flagged(c, asByte)
	if got != want {
		t.Fatalf("WithFlags(%+v, %d) = %+v, want %+v", c, flags, got, want)
	}
	if told := impl.Flags(got); told != toldOf(asByte) {
		t.Fatalf("Flags(WithFlags(%+v, %d)) = %d, want %d", c, flags, told, toldOf(asByte))
	}
}

func TestFlagsOfEachSet(t *testing.T) {
	for _, c := range someRegisters {
		for _, f := range flagSets {
			c.C, c.Z, c.I, c.N = f.c, f.z, f.i, f.n
			if got := impl.Flags(c); got != f.told {
				t.Errorf("Flags(%+v) = %d, want %d", c, got, f.told)
			}
			if got := impl.WithFlags(someRegisters[1], f.told); got.C != f.c || got.Z != f.z || got.I != f.i || got.N != f.n {
				t.Errorf("WithFlags(.., %d) = %+v, want C %v, Z %v, I %v, N %v", f.told, got, f.c, f.z, f.i, f.n)
			}
		}
	}
}

func TestP5FlagsAreAsTheyWerePut(t *testing.T) {
	for _, c := range someCpus() {
		for b := range 256 {
			checkWithFlags(t, c, b, b)
			put := impl.WithFlags(c, b)
			if put.A != c.A || put.X != c.X || put.S != c.S || put.Pc != c.Pc {
				t.Fatalf("WithFlags(%+v, %d) = %+v: a register is another one", c, b, put)
			}
			if again := impl.WithFlags(put, impl.Flags(put)); again != put {
				t.Fatalf("the flags of %+v put again: %+v", put, again)
			}
			if again := impl.WithFlags(put, b); again != put {
				t.Fatalf("WithFlags(%+v, %d) = %+v, though it was put before", put, b, again)
			}
			if back := impl.WithFlags(put, impl.Flags(c)); back != c {
				t.Fatalf("WithFlags(%+v, %d) = %+v, want %+v back", put, impl.Flags(c), back, c)
			}
		}
		if same := impl.WithFlags(c, impl.Flags(c)); same != c {
			t.Fatalf("the flags of %+v put there: %+v", c, same)
		}
	}
}

func TestWithFlagsBeyondAByte(t *testing.T) {
	for _, c := range someCpus() {
		for _, e := range byteEdges {
			checkWithFlags(t, c, e.x, e.asByte)
		}
		for x := -1024; x <= 1024; x++ {
			checkWithFlags(t, c, x, wrapped(x))
		}
	}
}

func TestWithFlagsByHand(t *testing.T) {
	all := impl.Cpu{A: -7, X: 300, S: 9, Pc: -1, Z: true, N: true, C: true, I: true}
	none := impl.Cpu{A: -7, X: 300, S: 9, Pc: -1}
	for _, e := range []struct {
		flags int
		want  impl.Cpu
	}{
		{0, none},
		{8 + 16 + 32 + 64, none},
		{135, all},
		{255, all},
		{256, none},
		{-1, all},
		{-256, none},
		{math.MaxInt, all},
		{math.MinInt, none},
		{math.MinInt + 1, impl.Cpu{A: -7, X: 300, S: 9, Pc: -1, C: true}},
		{2, impl.Cpu{A: -7, X: 300, S: 9, Pc: -1, Z: true}},
		{4, impl.Cpu{A: -7, X: 300, S: 9, Pc: -1, I: true}},
		{-128, impl.Cpu{A: -7, X: 300, S: 9, Pc: -1, N: true}},
	} {
		for _, c := range []impl.Cpu{all, none} {
			if got := impl.WithFlags(c, e.flags); got != e.want {
				t.Errorf("WithFlags(%+v, %d) = %+v, want %+v", c, e.flags, got, e.want)
			}
		}
	}
}

// registerEdge: a number in a register, and whether it is right there.
type registerEdge struct {
	x     int
	right bool
}

var byteRegister = []registerEdge{
	{0, true}, {1, true}, {127, true}, {128, true}, {255, true},
	{-1, false}, {256, false}, {-256, false}, {65535, false}, {math.MinInt, false}, {math.MaxInt, false},
}

var addrRegister = []registerEdge{
	{0, true}, {1, true}, {255, true}, {256, true}, {65535, true},
	{-1, false}, {65536, false}, {-65536, false}, {math.MinInt, false}, {math.MaxInt, false},
}

// checkCpuOk asks with each set of flags, as none of them makes a processor right or wrong.
func checkCpuOk(t *testing.T, c impl.Cpu, want bool) {
	t.Helper()
	for _, f := range flagSets {
		c.C, c.Z, c.I, c.N = f.c, f.z, f.i, f.n
		if got := impl.CpuOk(c); got != want {
			t.Fatalf("CpuOk(%+v) = %v, want %v", c, got, want)
		}
	}
}

func TestCpuOkOfOneRegister(t *testing.T) {
	rest := impl.Cpu{A: 1, X: 2, S: 3, Pc: 4}
	for _, e := range byteRegister {
		a, x, s := rest, rest, rest
		a.A, x.X, s.S = e.x, e.x, e.x
		for _, c := range []impl.Cpu{a, x, s} {
			checkCpuOk(t, c, e.right)
		}
	}
	for _, e := range addrRegister {
		c := rest
		c.Pc = e.x
		checkCpuOk(t, c, e.right)
	}
}

func TestCpuOkOfAllRegisters(t *testing.T) {
	for _, a := range byteRegister {
		for _, x := range byteRegister {
			for _, s := range byteRegister {
				for _, pc := range addrRegister {
					c := impl.Cpu{A: a.x, X: x.x, S: s.x, Pc: pc.x}
					checkCpuOk(t, c, a.right && x.right && s.right && pc.right)
				}
			}
		}
	}
}

// checkSet holds SetA and SetX of v against what is written field by field; all else stays, raw as it may be.
func checkSet(t *testing.T, c impl.Cpu, v int, asByte int) {
	t.Helper()
	marked := c
	marked.Z, marked.N = asByte == 0, asByte > 127
	withA, withX := marked, marked
	withA.A, withX.X = asByte, asByte
	if got := impl.SetA(c, v); got != withA {
		t.Fatalf("SetA(%+v, %d) = %+v, want %+v", c, v, got, withA)
	}
	if got := impl.SetX(c, v); got != withX {
		t.Fatalf("SetX(%+v, %d) = %+v, want %+v", c, v, got, withX)
	}
}

func TestSetAAndSetXByHand(t *testing.T) {
	c := impl.Cpu{A: -9, X: 400, S: -1, Pc: 65536, Z: true, C: true}
	for _, e := range []struct {
		v, put int
		z, n   bool
	}{
		{0, 0, true, false},
		{127, 127, false, false},
		{128, 128, false, true},
		{255, 255, false, true},
		{256, 0, true, false},
		{-1, 255, false, true},
		{-128, 128, false, true},
		{math.MinInt, 0, true, false},
		{math.MaxInt, 255, false, true},
	} {
		wantA := impl.Cpu{A: e.put, X: 400, S: -1, Pc: 65536, Z: e.z, N: e.n, C: true}
		if got := impl.SetA(c, e.v); got != wantA {
			t.Errorf("SetA(%+v, %d) = %+v, want %+v", c, e.v, got, wantA)
		}
		wantX := impl.Cpu{A: -9, X: e.put, S: -1, Pc: 65536, Z: e.z, N: e.n, C: true}
		if got := impl.SetX(c, e.v); got != wantX {
			t.Errorf("SetX(%+v, %d) = %+v, want %+v", c, e.v, got, wantX)
		}
	}
}

func TestSetAAndSetXOfAllCpus(t *testing.T) {
	for _, c := range someCpus() {
		for v := range 256 {
			checkSet(t, c, v, v)
		}
		for _, e := range byteEdges {
			checkSet(t, c, e.x, e.asByte)
		}
	}
}
