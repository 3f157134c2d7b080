package tests

import (
	"math"
	"os"
	"os/exec"
	"slices"
	"strconv"
	"strings"
	"sync"
	"testing"

	"loop.example/g00231/impl"
)

type opWords struct {
	op            int
	name          string
	bytes, cycles int
	access        int
}

// opTable is the chapter's table, written by hand.
var opTable = []opWords{
	{0, "nop", 1, 2, 0},
	{1, "ldi", 2, 2, 0},
	{2, "lda", 3, 4, 1},
	{3, "sta", 3, 4, 2},
	{4, "adi", 2, 2, 0},
	{5, "sbi", 2, 2, 0},
	{6, "ani", 2, 2, 0},
	{7, "ori", 2, 2, 0},
	{8, "xri", 2, 2, 0},
	{9, "cpi", 2, 2, 0},
	{10, "tax", 1, 2, 0},
	{11, "txa", 1, 2, 0},
	{12, "inx", 1, 2, 0},
	{13, "dex", 1, 2, 0},
	{14, "lax", 3, 4, 1},
	{15, "sax", 3, 5, 2},
	{16, "bne", 3, 3, 0},
	{17, "beq", 3, 3, 0},
	{18, "bcs", 3, 3, 0},
	{19, "jmp", 3, 3, 0},
	{20, "jsr", 3, 6, 0},
	{21, "rts", 1, 6, 0},
	{22, "pha", 1, 3, 0},
	{23, "pla", 1, 4, 0},
	{24, "rti", 1, 6, 0},
	{25, "sei", 1, 2, 0},
	{26, "cli", 1, 2, 0},
	{27, "sec", 1, 2, 0},
	{28, "clc", 1, 2, 0},
	{29, "ada", 3, 4, 1},
}

// noOps are numbers that are no op's, those among them that would be one as a byte, by 30 or in 32 bits.
func noOps() []int {
	list := []int{
		math.MinInt, math.MinInt + 1, math.MinInt + 2, math.MaxInt - 1, math.MaxInt,
		-1 << 32, -1<<32 + 2, 1 << 32, 1<<32 + 2, 1<<32 + 29, 1 << 31, -1 << 31, 65536, 65538, -65534,
	}
	for op := -600; op < 0; op++ {
		list = append(list, op)
	}
	for op := impl.Ops; op <= 600; op++ {
		list = append(list, op)
	}
	return list
}

// numberOf says by the table alone which op has that name.
func numberOf(name string) int {
	for _, w := range opTable {
		if w.name == name {
			return w.op
		}
	}
	return -1
}

func checkOp(t *testing.T, want opWords) {
	t.Helper()
	got := opWords{want.op, impl.OpName(want.op), impl.OpLen(want.op), impl.OpCycles(want.op), impl.OpAccess(want.op)}
	if got != want {
		t.Errorf("op %d: %v, want %v", want.op, got, want)
	}
}

func checkName(t *testing.T, name string) {
	t.Helper()
	if got, want := impl.OpOf(name), numberOf(name); got != want {
		t.Errorf("OpOf(%q) = %d, want %d", name, got, want)
	}
}

func TestOpConstants(t *testing.T) {
	if impl.Ops != 30 || len(opTable) != impl.Ops {
		t.Error("Ops", impl.Ops)
	}
	if impl.AcNone != 0 || impl.AcRead != 1 || impl.AcWrite != 2 {
		t.Error("accesses", impl.AcNone, impl.AcRead, impl.AcWrite)
	}
}

func TestP3EachNameHasItsNumber(t *testing.T) {
	for op := range impl.Ops {
		name := impl.OpName(op)
		if got := impl.OpOf(name); got != op {
			t.Errorf("OpName(%d) is %q, whose number is %d", op, name, got)
		}
	}
	for _, w := range opTable {
		if op := impl.OpOf(w.name); op != w.op || impl.OpName(op) != w.name {
			t.Errorf("OpOf(%q) is %d, whose name is %q", w.name, op, impl.OpName(op))
		}
	}
}

func TestOpsAreThoseOfTheTable(t *testing.T) {
	for _, w := range opTable {
		checkOp(t, w)
	}
}

func TestWhatIsNoOp(t *testing.T) {
	for _, op := range noOps() {
		checkOp(t, opWords{op, "", 1, 2, impl.AcNone})
		if got := impl.OpOf(impl.OpName(op)); got != -1 {
			t.Errorf("the name of %d, which is no op, has the number %d", op, got)
		}
	}
}

func TestNamesOfThreeLetters(t *testing.T) {
	for a := 'a'; a <= 'z'; a++ {
		for b := 'a'; b <= 'z'; b++ {
			for c := 'a'; c <= 'z'; c++ {
				checkName(t, string([]rune{a, b, c}))
			}
		}
	}
}

func TestNamesThatAreNone(t *testing.T) {
	for _, name := range []string{
		"", " ", "\n", "\x00", "?", "-1", "0", "2", "29", "30", "x", "byte", "at", "noop",
		"\xff", "\xff\xfe\xfd", "\x00\x00\x00", "ñop", "lda\u0301", "ｌｄａ",
		strings.Repeat("a", 3000), strings.Repeat("\xc3", 100000),
	} {
		checkName(t, name)
		if got := impl.OpOf(name); got != -1 {
			t.Errorf("OpOf(%q) = %d, want -1", name, got)
		}
	}
}

func TestNamesThatAreNearlyOne(t *testing.T) {
	for _, w := range opTable {
		for _, name := range []string{
			strings.ToUpper(w.name), strings.ToUpper(w.name[:1]) + w.name[1:], w.name[:2] + strings.ToUpper(w.name[2:]),
			" " + w.name, w.name + " ", "\t" + w.name, w.name + "\n", w.name + "\r", w.name + " 1",
			w.name + "\x00", "\x00" + w.name, w.name + "a", "a" + w.name,
			w.name[:1], w.name[:2], w.name[1:], w.name[2:], w.name[:1] + " " + w.name[1:],
		} {
			if got := impl.OpOf(name); got != -1 {
				t.Errorf("OpOf(%q) = %d, want -1", name, got)
			}
		}
		for _, behind := range opTable {
			if got := impl.OpOf(w.name + behind.name); got != -1 {
				t.Errorf("OpOf(%q) = %d, want -1", w.name+behind.name, got)
			}
		}
	}
}

func TestNamesWithOneByteChanged(t *testing.T) {
	for _, w := range opTable {
		for at := range 3 {
			for v := range 256 {
				b := []byte(w.name)
				b[at] = byte(v)
				checkName(t, string(b))
			}
		}
	}
}

// askAll asks all five functions for each op and each name, in the order of the rows.
func askAll(t *testing.T, rows []opWords) {
	t.Helper()
	for _, w := range rows {
		checkName(t, w.name+"?")
		checkName(t, w.name)
		checkOp(t, w)
		checkName(t, "")
		checkOp(t, opWords{-1 - w.op, "", 1, 2, impl.AcNone})
	}
}

func TestOpsAskedAgainAndInAnotherOrder(t *testing.T) {
	rows := slices.Clone(opTable)
	askAll(t, rows)
	askAll(t, rows)
	slices.Reverse(rows)
	askAll(t, rows)
	slices.SortFunc(rows, func(a, b opWords) int { return strings.Compare(a.name, b.name) })
	askAll(t, rows)
}

func TestOpsAskedByManyAtATime(t *testing.T) {
	var all sync.WaitGroup
	for range 16 {
		all.Go(func() { askAll(t, opTable) })
	}
	all.Wait()
}

const askedFirst = "OP_ASKED_FIRST"

// A name is asked ahead of the first reading of the map only by the first call of a process:
// so the test runs itself anew for each name, which is asked first there, behind all others, and again.
func TestEachNameAskedFirst(t *testing.T) {
	if name, asked := os.LookupEnv(askedFirst); asked {
		tellAskedFirst(name)
		return
	}
	names := []string{"", "fly", "NOP", "nop ", "byte", "\xff"}
	for _, w := range opTable {
		names = append(names, w.name)
	}
	told := make([]string, len(names))
	var all sync.WaitGroup
	for i, name := range names {
		all.Go(func() { told[i] = runAskedFirst(t, name) })
	}
	all.Wait()
	for i, name := range names {
		number := strconv.Itoa(numberOf(name))
		if want := "asked " + number + " " + number + " " + number + ";"; !strings.Contains(told[i], want) {
			t.Errorf("%q asked first: %q, want %q", name, told[i], want)
		}
	}
}

// tellAskedFirst writes what a name's number is at the first call, at the second, and behind all names.
func tellAskedFirst(name string) {
	first, second := impl.OpOf(name), impl.OpOf(name)
	for _, w := range opTable {
		impl.OpOf(w.name)
	}
	last := impl.OpOf(name)
	os.Stdout.WriteString("asked " + strconv.Itoa(first) + " " + strconv.Itoa(second) + " " + strconv.Itoa(last) + ";\n")
}

func runAskedFirst(t *testing.T, name string) string {
	program, err := os.Executable()
	if err != nil {
		t.Error(err)
		return ""
	}
	again := exec.Command(program, "-test.run=^TestEachNameAskedFirst$")
	again.Env = append(os.Environ(), askedFirst+"="+name)
	out, err := again.CombinedOutput()
	if err != nil {
		t.Errorf("%q asked first: %v", name, err)
	}
	return string(out)
}
