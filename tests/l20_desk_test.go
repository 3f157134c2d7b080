package tests

import (
	"bytes"
	"fmt"
	"maps"
	"math"
	"runtime"
	"slices"
	"strings"
	"sync"
	"testing"

	"loop.example/g00231/impl"
)

// turningLines let somebody run; asking ones do not. Both are all lines without a number.
var (
	turningLines = []string{"cpu", "picture", "sound", "level"}
	askingLines  = []string{"wait", "show", "frames", "samples", "judge"}
	silentLines  = []string{"", ";", "; x", ";cpu", ";;", "; fair 3", ";\r", "; \x00\xff"}
	fairLines    = []string{"fair 0", "fair 1", "fair 2", "fair 9", "fair 10", "fair 99", "fair 100", "fair 998", "fair 999"}
	nearlyLines  = []string{
		"fair", "fair ", "fair 00", "fair 01", "fair 000", "fair 001", "fair 0999", "fair 1000", "fair 1001", "fair 9990", "fair -1", "fair -0", "fair +1", "fair +0",
		"fair 1 ", "fair  1", " fair 1", "fair 1 1", "fair\t1", "fair1", "fair 0x1", "fair 1e2", "fair 1.0", "fair 1_0", "fair a", "fair 1a", "fair a1", "fair 1,2", "fair 1;",
		"fair 18446744073709551616", "fair 18446744073709551617", "fair 9223372036854775808", "fair -9223372036854775808", "fair 4294967297",
		"fair \xd9\xa1", "fair \xef\xbc\x91", "fair 1\n", "fair 1\r", "fair 1\x00", "fair \x00", "fair 1\xff", "Fair 1", "FAIR 1", "fairs 1", "fai 1", "unfair 1",
		" ", "  ", "\r", "\n", "\x00", "\x80", "\xff", "\t", " ;", "\r;", "\xff;", "help", "what", "bad", "ok", "no", "yes", "none", "room", "over", "0", "1", "-1",
		"cp", "cpuu", "pictures", "sounds", "levels", "waits", "shows", "frame", "sample", "judges", "CPU", "Cpu", "cPu", "cpu cpu", "cpu;", "cpu ;", "cpu 0", "cpu 1", "level 1", "judge 1",
		"picture sound", "PkCpu", "nop", "at 0", "byte 0", "\xef\xbb\xbfcpu", "cpu\xe2\x80\xa8", "s\xc3\xb6und", "\xef\xbd\x83pu",
	}
)

// deskLines are lines of each kind.
func deskLines() []string {
	return slices.Concat(turningLines, askingLines, silentLines, fairLines[:5], nearlyLines)
}

// fairNumber goes over the digits one by one, by the chapter's words.
func fairNumber(line string) (int, bool) {
	digits, is := strings.CutPrefix(line, "fair ")
	if !is || len(digits) < 1 || len(digits) > 3 || len(digits) > 1 && digits[0] == '0' || strings.Trim(digits, "0123456789") != "" {
		return 0, false
	}
	n := 0
	for _, d := range []byte(digits) {
		n = n*10 + int(d) - 48
	}
	return n, true
}

var waitWords = map[int]string{0: "none", 1: "picture", 2: "sound", 3: "room", 4: "room", 5: "over"}

// wantCpuLine is for a right processor.
func wantCpuLine(c impl.Cpu) string {
	flags := ""
	for _, f := range []struct {
		on     bool
		letter string
	}{{c.C, "C"}, {c.Z, "Z"}, {c.I, "I"}, {c.N, "N"}} {
		flags += strings.Repeat(f.letter, one(f.on))
	}
	if flags == "" {
		flags = "-"
	}
	return fmt.Sprintf("A%d X%d S%d Pc%d %s", c.A, c.X, c.S, c.Pc, flags)
}

// wantAsked is what a line tells that asks, of a right console.
func wantAsked(s impl.Split, line string) (string, bool) {
	switch line {
	case "wait":
		return waitWords[wantWait(s)], true
	case "show":
		return wantCpuLine(s.Cpu), true
	case "frames":
		return fmt.Sprint(len(s.Picture.Frames)), true
	case "samples":
		return fmt.Sprint(len(s.Sound.Samples)), true
	case "judge":
		return []string{"no", "yes"}[one(wantVerdict(s, impl.Twin(s))[4])], true
	}
	return "", false
}

// wantDo goes by the chapter, line by line.
func wantDo(s impl.Split, line string) (impl.Split, string) {
	if !impl.SplitOk(s) {
		return copyOfSplit(s), "bad"
	}
	if line == "" || line[0] == ';' {
		return copyOfSplit(s), ""
	}
	if said, asks := wantAsked(s, line); asks {
		return copyOfSplit(s), said
	}
	if who := slices.Index([]string{"cpu", "picture", "sound"}, line); who >= 0 {
		behind, done := wantPick(s, who)
		return behind, []string{"no", "ok"}[one(done)]
	}
	if line == "level" {
		return wantLevel(s), "ok"
	}
	if n, ok := fairNumber(line); ok {
		behind, many := wantFair(s, n)
		return behind, fmt.Sprint(many)
	}
	return copyOfSplit(s), "what"
}

func checkDo(t *testing.T, what string, s impl.Split, line string, want impl.Split, wantSaid string) impl.Split {
	t.Helper()
	was, lineWas := copyOfSplit(s), []byte(line)
	got, said := impl.Do(s, line)
	if said != wantSaid {
		t.Fatalf("%s: Do of %q tells %q, want %q, of %s", what, line, said, wantSaid, tellSplit(s))
	}
	checkSplit(t, fmt.Sprintf("%s: Do of %q", what, line), got, want)
	checkSplit(t, fmt.Sprintf("%s: the argument of Do of %q", what, line), s, was)
	if !bytes.Equal([]byte(line), lineWas) {
		t.Fatalf("%s: the line is %q, was %q", what, line, lineWas)
	}
	return got
}

// checkTurnsNothing is the second part of P20.
func checkTurnsNothing(t *testing.T, what string, s impl.Split, line, said string) {
	t.Helper()
	checkDo(t, what, s, line, copyOfSplit(s), said)
}

// checkDoes is of any line, by the chapter.
func checkDoes(t *testing.T, what string, s impl.Split, line string) impl.Split {
	t.Helper()
	want, said := wantDo(s, line)
	return checkDo(t, what, s, line, want, said)
}

// handText is a program that has room, a picture read and an own way back from Nmi.
const handText = "ldi 128\nsta 8192\nldi 5\nsta 8193\nlda 8194\nsta 16\njmp 49162\nat 128\ninx\nrti\nat 250\nbyte 128\nbyte 192\nbyte 0\nbyte 192\n"

// bankText is the program whose bank has these bytes.
func bankText(bank []int) string {
	var text strings.Builder
	for _, v := range bank {
		fmt.Fprintf(&text, "byte %d\n", v)
	}
	return text.String()
}

// deskText is another program for each seed. Some of them let units wait, and are waited for.
func deskText(seed int) string {
	loops := []string{
		handText, "lda 8194\nsta 8196\nsta 16385\njmp 49152\n", "jmp 49152\n",
		"ldi 3\nsta 16385\nldi 1\nsta 16386\nsta 16384\nlda 16386\ncli\njmp 49152\n", "lda 16406\nsta 16406\nsta 32768\nsta 16387\ninx\nsax 8192\njmp 49155\n",
	}
	if seed%3 < 2 {
		return bankText(programOf(seed).Banks[1])
	}
	text := loops[seed/3%len(loops)]
	if text != handText {
		text += "at 252\nbyte 0\nbyte 192\n"
	}
	return text
}

// mustSetup is for what has one.
func mustSetup(t *testing.T, text string, pads []int, cap int) impl.Split {
	t.Helper()
	s, how := impl.Setup(text, pads, cap)
	if how != 0 || !impl.SplitOk(s) {
		t.Fatalf("no console: %d, %.60q, %v, %d", how, text, pads, cap)
	}
	return s
}

func TestDeskConstants(t *testing.T) {
	if impl.MaxLines != 80 {
		t.Error("MaxLines is", impl.MaxLines)
	}
}

func checkSetup(t *testing.T, text string, pads []int, cap int, want impl.Split, wantHow int) {
	t.Helper()
	padsWere, textWas := slices.Clone(pads), []byte(text)
	got, how := impl.Setup(text, pads, cap)
	if how != wantHow {
		t.Fatalf("Setup(%.60q, %v, %d) is %d, want %d", text, pads, cap, how, wantHow)
	}
	checkSplit(t, fmt.Sprintf("Setup(%.60q, %v, %d)", text, pads, cap), got, want)
	if !slices.Equal(pads, padsWere) || !bytes.Equal([]byte(text), textWas) {
		t.Fatalf("pads are %v, were %v", pads, padsWere)
	}
}

func TestSetupByHand(t *testing.T) {
	s := mustSetup(t, handText, []int{7, 9}, 3)
	bank := bankFrom(0, 1, 128, 3, 0, 32, 1, 5, 3, 1, 32, 2, 2, 32, 3, 16, 0, 19, 10, 192)
	copy(bank[128:], []int{12, 24})
	copy(bank[250:], []int{128, 192, 0, 192})
	checkSplit(t, "by hand", s, impl.Split{
		Img: impl.Image{Banks: [][]int{bank}}, Pads: []int{7, 9}, Mem: impl.Mem{Ram: make([]int, 512)},
		Cpu:     impl.Cpu{S: 255, I: true, Pc: 49152},
		Picture: impl.Picture{Ppu: impl.Ppu{Table: make([]int, 16)}, Ring: impl.Ring{Cap: 3}}, Sound: impl.Sound{Ring: impl.Ring{Cap: 3}},
	})
}

// TestSetupIsSplitNew of the one bank that is assembled; each text with each size of a ring and each row of pads.
func TestSetupIsSplitNew(t *testing.T) {
	texts := []string{"", "\n", "\n\n\n", "nop", "at 9", "byte 255\n", strings.Repeat("\n", 3000), strings.Repeat("nop\n", 750), "nop\n" + strings.Repeat("\n", 2996)}
	for seed := range 12 {
		texts = append(texts, deskText(seed))
	}
	for _, text := range texts {
		bank, fault := impl.Assemble(text)
		if fault != 0 || len(text) > 3000 {
			t.Fatalf("no program: %.60q", text)
		}
		for cap := 1; cap <= 16; cap++ {
			for _, pads := range rightPads()[cap%4*7 : cap%4*7+7] {
				want, ok := impl.SplitNew(impl.Image{Banks: [][]int{slices.Clone(bank)}}, slices.Clone(pads), cap)
				if !ok || len(want.Img.Banks) != 1 || !slices.Equal(want.Img.Banks[0], bank) || !slices.Equal(want.Pads, pads) || want.Picture.Ring.Cap != cap || want.Sound.Ring.Cap != cap {
					t.Fatalf("no console: %s", tellSplit(want))
				}
				checkSetup(t, text, pads, cap, want, 0)
			}
		}
	}
}

// noPrograms are texts with the number that Assemble tells.
func noPrograms() map[string]int {
	return map[string]int{
		"fly": 1, "fly\n": 1, " ": 1, "\r\n": 1, "\xff": 1, "\x00": 1, "ldi 256": 1, "ldi 05\nnop": 1, "nop ": 1, "cpu": 1, "; x": 1, "fair 1": 1,
		"nop\nfly": 2, "\nfly": 2, "\n\n\nfly\nfly\n": 4, "nop\nldi 5\njmp 65536\n": 3, strings.Repeat("nop\n", 200) + "sta": 201,
		strings.Repeat("\n", 2997) + "fly": 2998, strings.Repeat("\n", 3001): -1, strings.Repeat("nop\n", 750) + "\n": -1, strings.Repeat("nop\n", 5000): -1,
		strings.Repeat("\n", 2998) + "fly": 2999, strings.Repeat("nop\n", 2000) + "fly": 2001, "fly" + strings.Repeat("\n", 5000): 1, // too long, but first a line that is none
	}
}

// noRings and wrongPads are all for which there is no Split of a bank that is right.
var noRings = []int{math.MinInt, math.MinInt + 1, -1 << 32, -16, -1, 0, 17, 18, 256, 1 << 32, 1<<32 + 1, math.MaxInt - 1, math.MaxInt}

func TestSetupOfWhatIsNoProgram(t *testing.T) {
	for text, line := range noPrograms() {
		if bank, how := impl.Assemble(text); how != line || len(bank) > 0 {
			t.Fatalf("Assemble(%.60q) is %d, want %d", text, how, line)
		}
		for _, pads := range [][]int{nil, {5}, padsOf(20)} {
			checkSetup(t, text, pads, 1, impl.Split{}, line)
		}
		for _, pads := range append(wrongPads()[:20], nil) { // the text counts first
			for _, cap := range append(noRings, 16) {
				checkSetup(t, text, pads, cap, impl.Split{}, line)
			}
		}
	}
}

func TestSetupWithoutASplit(t *testing.T) {
	for _, text := range []string{"", handText, deskText(1), strings.Repeat("\n", 3000)} {
		for _, cap := range noRings {
			for _, pads := range [][]int{nil, {5}, padsOf(20), padsOf(21), {256}} {
				checkSetup(t, text, pads, cap, impl.Split{}, -2)
			}
		}
		for _, pads := range wrongPads() {
			for _, cap := range []int{1, 7, 16, 0} {
				checkSetup(t, text, pads, cap, impl.Split{}, -2)
			}
		}
	}
}

// TestDoByHand: each line with what it tells, and with how far all are behind it.
func TestDoByHand(t *testing.T) {
	s := mustSetup(t, handText, nil, 1)
	for n, e := range []struct {
		line, said         string
		t, picture, sound  int
		records, steps     int
		frames, samples, x int
	}{
		{"show", "A0 X0 S255 Pc49152 I", 0, 0, 0, 0, 0, 0, 0, 0}, {"wait", "none", 0, 0, 0, 0, 0, 0, 0, 0}, {"picture", "no", 0, 0, 0, 0, 0, 0, 0, 0}, {"sound", "no", 0, 0, 0, 0, 0, 0, 0, 0},
		{"level", "ok", 0, 0, 0, 0, 0, 0, 0, 0}, {"fair 0", "0", 0, 0, 0, 0, 0, 0, 0, 0}, {"judge", "yes", 0, 0, 0, 0, 0, 0, 0, 0}, {"frames", "0", 0, 0, 0, 0, 0, 0, 0, 0}, {"samples", "0", 0, 0, 0, 0, 0, 0, 0, 0},
		{"cpu", "ok", 2, 0, 0, 0, 1, 0, 0, 0}, {"show", "A128 X0 S255 Pc49154 IN", 2, 0, 0, 0, 1, 0, 0, 0}, {"sound", "ok", 2, 0, 1, 0, 1, 0, 0, 0}, {"cpu", "ok", 6, 0, 1, 1, 2, 0, 0, 0},
		{"cpu", "ok", 8, 0, 1, 1, 3, 0, 0, 0}, {"show", "A5 X0 S255 Pc49159 I", 8, 0, 1, 1, 3, 0, 0, 0}, {"wait", "room", 8, 0, 1, 1, 3, 0, 0, 0}, {"cpu", "no", 8, 0, 1, 1, 3, 0, 0, 0},
		{"picture", "ok", 8, 1, 1, 1, 3, 0, 0, 0}, {"", "", 8, 1, 1, 1, 3, 0, 0, 0}, {"picture", "ok", 8, 2, 1, 1, 3, 0, 0, 0}, {"wait", "room", 8, 2, 1, 1, 3, 0, 0, 0}, {"picture", "ok", 8, 2, 1, 0, 3, 0, 0, 0},
		{"wait", "none", 8, 2, 1, 0, 3, 0, 0, 0}, {"judge", "yes", 8, 2, 1, 0, 3, 0, 0, 0}, {"cpu", "ok", 12, 2, 1, 1, 4, 0, 0, 0}, {"wait", "picture", 12, 2, 1, 1, 4, 0, 0, 0}, {"cpu", "no", 12, 2, 1, 1, 4, 0, 0, 0},
		{"; level", "", 12, 2, 1, 1, 4, 0, 0, 0}, {"fair 0", "0", 12, 2, 1, 1, 4, 0, 0, 0}, {"help", "what", 12, 2, 1, 1, 4, 0, 0, 0}, {"level", "ok", 12, 12, 12, 0, 4, 0, 0, 0}, {"level", "ok", 12, 12, 12, 0, 4, 0, 0, 0},
		{"picture", "no", 12, 12, 12, 0, 4, 0, 0, 0}, {"sound", "no", 12, 12, 12, 0, 4, 0, 0, 0}, {"wait", "none", 12, 12, 12, 0, 4, 0, 0, 0}, {"fair 1", "1", 16, 12, 12, 0, 5, 0, 0, 0},
		{"show", "A0 X0 S255 Pc49165 ZI", 16, 12, 12, 0, 5, 0, 0, 0}, {"samples", "0", 16, 12, 12, 0, 5, 0, 0, 0}, {"fair 2", "2", 23, 20, 20, 0, 7, 0, 1, 0}, {"samples", "1", 23, 20, 20, 0, 7, 0, 1, 0},
		{"fair 7", "7", 49, 45, 45, 0, 14, 0, 2, 0}, {"frames", "0", 49, 45, 45, 0, 14, 0, 2, 0}, {"samples", "2", 49, 45, 45, 0, 14, 0, 2, 0}, {"level", "ok", 49, 49, 49, 0, 14, 1, 3, 0},
		{"frames", "1", 49, 49, 49, 0, 14, 1, 3, 0}, {"samples", "3", 49, 49, 49, 0, 14, 1, 3, 0}, {"show", "A0 X0 S255 Pc49165 ZI", 49, 49, 49, 0, 14, 1, 3, 0}, {"cpu", "ok", 56, 49, 49, 0, 15, 1, 3, 0},
		{"show", "A0 X0 S252 Pc49280 ZI", 56, 49, 49, 0, 15, 1, 3, 0}, {"cpu", "ok", 58, 49, 49, 0, 16, 1, 3, 1}, {"show", "A0 X1 S252 Pc49281 I", 58, 49, 49, 0, 16, 1, 3, 1},
		{"cpu", "ok", 64, 49, 49, 0, 17, 1, 3, 1}, {"show", "A0 X1 S255 Pc49165 ZI", 64, 49, 49, 0, 17, 1, 3, 1}, {"judge", "yes", 64, 49, 49, 0, 17, 1, 3, 1},
	} {
		got, said := impl.Do(s, e.line)
		if said != e.said {
			t.Fatalf("line %d, %q: %q, want %q, of %s", n, e.line, said, e.said, tellSplit(s))
		}
		if s = got; s.T != e.t || s.Picture.Ppu.T != e.picture || s.Sound.Apu.T != e.sound || len(s.Picture.Ring.List) != e.records || s.Steps != e.steps ||
			len(s.Picture.Frames) != e.frames || len(s.Sound.Samples) != e.samples || s.Cpu.X != e.x {
			t.Fatalf("line %d, %q: %s, want %+v", n, e.line, tellSplit(s), e)
		}
	}
}

// TestDoToTheEnd: the last steps are fewer, and then nobody is able any more.
func TestDoToTheEnd(t *testing.T) {
	s := mustSetup(t, "jmp 49152\nat 252\nbyte 0\nbyte 192\n", nil, 2)
	for n, e := range [][2]string{
		{"fair 999", "999"}, {"fair 999", "999"}, {"fair 999", "999"}, {"judge", "yes"}, {"fair 3", "3"}, {"judge", "yes"}, {"fair 1", "1"}, {"judge", "no"}, {"level", "ok"}, {"judge", "no"},
		{"fair 999", "999"}, {"fair 999", "999"}, {"fair 999", "999"}, {"wait", "none"}, {"frames", "281"}, {"samples", "1124"}, {"fair 999", "668"}, {"wait", "over"},
		{"cpu", "no"}, {"picture", "no"}, {"sound", "no"}, {"fair 0", "0"}, {"fair 1", "0"}, {"fair 999", "0"}, {"level", "ok"}, {"wait", "over"}, {"show", "A0 X0 S255 Pc49152 I"}, {"frames", "312"}, {"samples", "1249"}, {"judge", "no"},
	} {
		got, said := impl.Do(s, e[0])
		if said != e[1] {
			t.Fatalf("line %d, %q: %q, want %q, of %s", n, e[0], said, e[1], tellSplit(s))
		}
		s = got
	}
}

// TestDoOfWhatIsNotRight: whatever the line is.
func TestDoOfWhatIsNotRight(t *testing.T) {
	n, lines := 0, deskLines()
	for name, s := range wrongSplits() {
		for k := range lines {
			if k < 13 || k%12 == n%12 {
				checkDo(t, name, s, lines[k], s, "bad")
			}
		}
		n++
	}
	for _, name := range []string{"T", "Ctrl", "KnownAt", "Steps", "Shift", "Bank", "A", "Pc", "picture T", "Table", "sound T", "picture Cap"} {
		for _, v := range []int{math.MinInt, -1, 1 << 32, math.MaxInt} {
			s := splitAt(84)
			s.Picture, s.Sound = pictureAt(84, recsAt(84)...), soundAt(84, recsAt(84)...)
			*numbersOfSplit(&s)[name] = v
			for _, line := range slices.Concat(turningLines, askingLines, []string{"", ";", "fair 0", "fair 3", "fair", "\xff"}) {
				checkDo(t, fmt.Sprint(name, " ", v), s, line, s, "bad")
			}
		}
	}
}

// someDesks are right consoles that go on, that wait for each reason, that are over; let run, turned, and of many steps.
func someDesks(t *testing.T) map[string]impl.Split {
	t.Helper()
	some := judgedSome(t)
	for name, s := range someSplits() {
		if impl.SplitOk(s) && (len(some) < 90 || s.T > 200) {
			some[name] = s
		}
	}
	maps.DeleteFunc(some, func(_ string, s impl.Split) bool { return !impl.SplitOk(s) })
	return some
}

func TestDoEachLine(t *testing.T) {
	met := map[string]int{}
	for name, s := range someDesks(t) {
		for _, line := range slices.Concat(turningLines, askingLines, []string{"", "; x", "fair 0", "fair 1", "fair 7", "fair 40", "fair 01", "fair", "what"}) {
			checkDoes(t, name, s, line)
			_, said := wantDo(s, line)
			met[line+": "+said]++
		}
	}
	for _, told := range []string{
		"cpu: ok", "cpu: no", "picture: ok", "picture: no", "sound: ok", "sound: no", "level: ok", "wait: none", "wait: picture", "wait: sound", "wait: room", "wait: over", "judge: yes", "judge: no",
		"fair 0: 0", "fair 1: 0", "fair 1: 1", "fair 7: 7", "fair 40: 40", ": ", "; x: ", "fair 01: what", "fair: what",
	} {
		if met[told] < 1 {
			t.Errorf("never met %q: %v", told, met)
		}
	}
}

// TestP20WhatAsksTurnsNothing, nor what tells `no` or `what`, nor a line without words.
func TestP20WhatAsksTurnsNothing(t *testing.T) {
	for name, s := range someDesks(t) {
		for _, line := range askingLines {
			said, _ := wantAsked(s, line)
			checkTurnsNothing(t, name, s, line, said)
		}
		for _, line := range silentLines {
			checkTurnsNothing(t, name, s, line, "")
		}
		for _, line := range nearlyLines[len(name)%7*10 : len(name)%7*10+25] {
			checkTurnsNothing(t, name, s, line, "what")
		}
		for _, line := range turningLines[:3] {
			if _, said := impl.Do(s, line); said == "no" {
				checkTurnsNothing(t, name, s, line, "no")
			}
		}
	}
}

// TestDoWaitTellsEachReason: as Wait of a console by hand.
func TestDoWaitTellsEachReason(t *testing.T) {
	full := recsAt(130, 130)
	for said, all := range map[string][]impl.Split{
		"none":    {splitAt(0), doing(splitAt(130), "lda", 8194), doing(splitAt(19998), "nop", 0), splitWith(doing(splitAt(70), "lda", 8194), func(s *impl.Split) { s.Nmi = true })},
		"picture": {doing(splitBehind(130, 129, 130, 4), "lda", 8194), doing(splitWith(splitAt(130), func(s *impl.Split) { s.Picture.Ring.List = recsAt(130) }), "lda", 8192)},
		"sound": {
			doing(splitBehind(130, 130, 129, 4), "lda", 16386),
			splitWith(doing(splitBehind(130, 130, 10, 4), "nop", 0), func(s *impl.Split) { s.Cpu.I, s.KnownAt = false, 5 }),
		},
		"room": {
			doing(splitWith(splitBehind(130, 0, 0, 2), func(s *impl.Split) { s.Picture.Ring.List = full }), "sta", 8194),
			doing(splitWith(splitBehind(130, 0, 0, 2), func(s *impl.Split) { s.Sound.Ring.List = full }), "sta", 16384),
		},
		"over": {doing(splitAt(19998), "lda", 7), doing(splitAt(20000), "nop", 0), splitWith(splitAt(19994), func(s *impl.Split) { s.Nmi = true })},
	} {
		for _, s := range all {
			checkTurnsNothing(t, "by hand", s, "wait", said)
			if got := waitWords[impl.Wait(s)]; got != said {
				t.Errorf("Wait is %q, the line tells %q", got, said)
			}
		}
	}
}

// TestDoJudgesAsJudgeAll: of one that was let run yes; no, if but one thing is turned, or there were too many steps.
func TestDoJudgesAsJudgeAll(t *testing.T) {
	s := judgedBehind(t)
	checkTurnsNothing(t, "let run", s, "judge", "yes")
	checkTurnsNothing(t, "Level", impl.Level(s), "judge", "yes")
	for name, change := range map[string]func(*impl.Split){
		"A": func(s *impl.Split) { s.Cpu.A ^= 1 }, "a sample": func(s *impl.Split) { s.Sound.Samples[3] ^= 8 }, "a record": func(s *impl.Split) { s.Picture.Ring.List[0].V ^= 1 }, "steps": func(s *impl.Split) { s.Steps-- },
	} {
		checkTurnsNothing(t, name, splitWith(s, change), "judge", "no")
	}
	long, _ := impl.Fair(mustSetup(t, deskText(2), nil, 4), 3000)
	checkTurnsNothing(t, "3000 steps", long, "judge", "yes")
	more, said := impl.Do(long, "fair 1")
	if said != "1" || more.Steps != 3001 {
		t.Fatalf("one step more: %q, %d", said, more.Steps)
	}
	checkTurnsNothing(t, "3001 steps", more, "judge", "no")
}

// TestDoOfEachNumber from 0 to 999, with and without needless noughts, and of greater ones; just two steps are left.
func TestDoOfEachNumber(t *testing.T) {
	s := fairTo(t, "jmp 49152\n", 19993)
	level, _ := wantFair(s, 3)
	for n := range 1200 {
		want, said := level, "2"
		if n < 3 {
			want, _ = wantFair(s, n)
			said = fmt.Sprint(n)
		}
		if n > 999 {
			want, said = s, "what"
		}
		checkDo(t, "two steps left", s, fmt.Sprint("fair ", n), want, said)
		if n%10 == 0 || n < 100 || n > 990 {
			for _, line := range []string{fmt.Sprint("fair 0", n), fmt.Sprintf("fair %05d", n), fmt.Sprint("fair -", n), fmt.Sprint("fair +", n), fmt.Sprintf("fair %d ", n), fmt.Sprintf("fair  %d", n), fmt.Sprintf("fair %d.", n), fmt.Sprintf("fair %d000", n)} {
				checkDo(t, "no number", s, line, s, "what")
			}
		}
	}
	for many := 4; many < 60; many++ {
		for _, digit := range []string{"0", "1", "9"} {
			checkDo(t, "many digits", s, "fair "+strings.Repeat(digit, many), s, "what")
			checkDo(t, "many digits", s, "fair 1"+strings.Repeat("0", many), s, "what")
		}
	}
	checkDo(t, "very many digits", s, "fair "+strings.Repeat("7", 100000), s, "what")
	start := mustSetup(t, handText, []int{1, 2}, 2)
	for _, line := range fairLines {
		n, _ := fairNumber(line)
		want, many := wantFair(start, n)
		checkDo(t, "at the start", start, line, want, fmt.Sprint(many))
	}
}

func TestDoOfWhatIsNoLine(t *testing.T) {
	s := mustSetup(t, handText, nil, 2)
	s, _ = impl.Fair(s, 3)
	for _, line := range nearlyLines {
		checkTurnsNothing(t, "no line", s, line, "what")
	}
	for _, line := range slices.Concat(turningLines, askingLines, fairLines) {
		for _, other := range []string{" " + line, line + " ", line + "\r", line + "\n", "\n" + line, line + "\x00", "\x00" + line, line + "\x80", "\xff" + line, line + "\xff", line + line, line + "\n" + line, strings.ToUpper(line), strings.ToUpper(line[:1]) + line[1:], line[1:], "\t" + line, line + ";"} {
			checkTurnsNothing(t, "nearly a line", s, other, "what")
		}
		if _, fair := fairNumber(line[:len(line)-1]); !fair {
			checkTurnsNothing(t, "cut", s, line[:len(line)-1], "what")
		}
	}
}

// TestDoOfAnyByte ahead of, behind and within each line.
func TestDoOfAnyByte(t *testing.T) {
	s := splitAt(3)
	s.Picture, s.Sound = pictureAt(2), soundAt(1)
	known := map[string]string{}
	for _, line := range slices.Concat(turningLines, askingLines, []string{"fair 0", "fair 7", "fair 20"}) {
		_, known[line] = wantDo(s, line)
	}
	check := func(line string) {
		t.Helper()
		_, said := impl.Do(s, line)
		want, is := known[line]
		if _, fair := fairNumber(line); fair && !is {
			_, want = wantDo(s, line)
			is = true
		}
		switch {
		case line == "" || line[0] == ';':
			want = ""
		case !is:
			want = "what"
		}
		if said != want {
			t.Fatalf("Do of %q tells %q, want %q", line, said, want)
		}
	}
	for b := range 256 {
		check(string([]byte{byte(b)}))
		for line := range known {
			for at := range len(line) + 1 {
				check(line[:at] + string([]byte{byte(b)}) + line[at:])
				if at < len(line) {
					check(line[:at] + string([]byte{byte(b)}) + line[at+1:])
				}
			}
		}
	}
}

// linesBy are the lines of a text, byte by byte.
func linesBy(text string) []string {
	var lines []string
	line := ""
	for n := range len(text) {
		if text[n] == 10 {
			lines = append(lines, line)
			line = ""
			continue
		}
		line += text[n : n+1]
	}
	if line != "" {
		lines = append(lines, line)
	}
	return lines
}

// wantSession is P20: what Do tells, line by line, from Setup on.
func wantSession(text string, pads []int, cap int, lines string) (string, int) {
	s, how := impl.Setup(text, pads, cap)
	if how != 0 {
		return "", -1
	}
	list, told := linesBy(lines), ""
	if len(list) > 80 {
		return "", -2
	}
	for _, line := range list {
		var said string
		if s, said = impl.Do(s, line); said != "" {
			told += said + "\n"
		}
	}
	return told, len(list)
}

func checkSession(t *testing.T, text string, pads []int, cap int, lines, want string, wantMany int) {
	t.Helper()
	padsWere := slices.Clone(pads)
	got, many := impl.Session(text, pads, cap, lines)
	if got != want || many != wantMany {
		t.Fatalf("Session(%.60q, %v, %d, %.200q) = %q, %d, want %q, %d", text, pads, cap, lines, got, many, want, wantMany)
	}
	if !slices.Equal(pads, padsWere) {
		t.Fatalf("pads are %v, were %v", pads, padsWere)
	}
}

func TestSessionByHand(t *testing.T) {
	for _, e := range []struct {
		lines, want string
		many        int
	}{
		{"", "", 0}, {"\n", "", 1}, {"\n\n", "", 2}, {"\n\n\n", "", 3}, {";", "", 1}, {";\n", "", 1}, {";\n;", "", 2},
		{"cpu", "ok\n", 1}, {"cpu\n", "ok\n", 1}, {"cpu\n\n", "ok\n", 2}, {"\ncpu", "ok\n", 2}, {"\n\ncpu\n\n", "ok\n", 4}, {"fly", "what\n", 1}, {"fly\n", "what\n", 1}, {" \n", "what\n", 1}, {"\r\n", "what\n", 1}, {"\x00", "what\n", 1},
		{"cpu\nshow", "ok\nA128 X0 S255 Pc49154 IN\n", 2}, {"cpu\r\nshow\r\n", "what\nwhat\n", 2}, {"show\ncpu\r\nshow\n", "A0 X0 S255 Pc49152 I\nwhat\nA0 X0 S255 Pc49152 I\n", 3},
		{"\xc3\ncpu\n\xe2\x82\nshow\n\xf0\x9f\x98\n", "what\nok\nwhat\nA128 X0 S255 Pc49154 IN\nwhat\n", 5},
		{"cpu\ncpu\ncpu\nwait\ncpu\n; so\n\nlevel\nwait\njudge\nfair 11\nframes\nsamples\nlevel\nframes\nsamples\nfair 01\n", "ok\nok\nok\nroom\nno\nok\nnone\nyes\n11\n0\n2\nok\n1\n3\nwhat\n", 17},
		{"wait\nwait\nshow\nshow\njudge\nframes\nsamples\ncpu\nshow", "none\nnone\nA0 X0 S255 Pc49152 I\nA0 X0 S255 Pc49152 I\nyes\n0\n0\nok\nA128 X0 S255 Pc49154 IN\n", 9},
	} {
		checkSession(t, handText, nil, 1, e.lines, e.want, e.many)
	}
}

// mixedLines are so many lines, of each kind, another row for each seed; some end with a byte 10, some do not.
func mixedLines(seed, many int) string {
	state := uint64(seed)*2862933555777941757 + 3037000493
	next := func(by int) int {
		state = state*6364136223846793005 + 1442695040888963407
		return int(state >> 33 % uint64(by))
	}
	var lines []string
	for len(lines) < many {
		row := [][]string{turningLines, askingLines, silentLines, fairLines[:6], nearlyLines, {"cpu"}, {"cpu", "picture", "sound"}, {"cpu", "sound", "level"}}[next(8)]
		if line := row[next(len(row))]; !strings.Contains(line, "\n") {
			lines = append(lines, line)
		}
	}
	if many > 0 && lines[many-1] == "" {
		lines[many-1] = "show"
	}
	return strings.Join(lines, "\n") + []string{"", "\n"}[one(many > 0 && seed%2 == 0)]
}

// TestP20ASessionTellsWhatDoTells: of many programs, pads, sizes of rings and lines, from Setup on.
func TestP20ASessionTellsWhatDoTells(t *testing.T) {
	met := map[string]bool{}
	for seed := range 100 {
		text, pads, cap := deskText(seed), padsOf(seed%21), 1+seed%16
		many := []int{0, 1, 2, 10, 40, 79, 80, 80}[seed%8]
		lines := mixedLines(seed, many)
		if seed%10 == 7 {
			lines = strings.Repeat("fair 99\nwait\ncpu\npicture\njudge\n", 16)
		}
		if seed%10 == 2 {
			lines = strings.Repeat("cpu\nwait\n", 40)
		}
		want, wantMany := wantSession(text, pads, cap, lines)
		if wantMany < many/2 {
			t.Fatalf("seed %d: %d lines, %q", seed, wantMany, lines)
		}
		checkSession(t, text, pads, cap, lines, want, wantMany)
		for _, said := range strings.Split(want, "\n") {
			met[said] = true
		}
	}
	for _, said := range []string{"ok", "no", "what", "none", "picture", "sound", "room", "yes", "0", "1", "99"} {
		if !met[said] {
			t.Errorf("%q was never told", said)
		}
	}
}

// TestP20ASessionIsAPartAndThenTheRest: of its beginnings each tells the beginning of what all tell.
func TestP20ASessionIsAPartAndThenTheRest(t *testing.T) {
	for seed := range 6 {
		text, pads := deskText(seed), padsOf(seed)
		list := linesBy(mixedLines(seed, 40))
		whole, _ := impl.Session(text, pads, 2, strings.Join(list, "\n"))
		for many := range list {
			lines := strings.Join(list[:many], "\n")
			if many > 0 {
				lines += "\n"
			}
			part, n := impl.Session(text, pads, 2, lines)
			if n != many || !strings.HasPrefix(whole, part) {
				t.Fatalf("seed %d: %d lines tell %q, all tell %q", seed, n, part, whole)
			}
		}
	}
}

// TestP20ASessionWithoutWhatAsks tells the same but for that.
func TestP20ASessionWithoutWhatAsks(t *testing.T) {
	for seed := range 30 {
		text, pads := deskText(seed), padsOf(seed%5)
		turns := slices.DeleteFunc(linesBy(mixedLines(seed*2, 26)), func(line string) bool {
			_, fair := fairNumber(line)
			return !fair && !slices.Contains(turningLines, line)
		})
		plain, many := impl.Session(text, pads, 1+seed%3, strings.Join(turns, "\n"))
		var asked []string
		for n, line := range turns {
			asked = append(asked, askingLines[n%5], askingLines[n/5%5], line)
		}
		told, more := impl.Session(text, pads, 1+seed%3, strings.Join(asked, "\n"))
		var kept []string
		for n, said := range linesBy(told) {
			if n%3 == 2 {
				kept = append(kept, said)
			}
		}
		if more != 3*many || !slices.Equal(kept, linesBy(plain)) {
			t.Fatalf("seed %d: %q of %d lines, with what asks %q of %d", seed, plain, many, told, more)
		}
	}
}

func TestSessionOfMaxLines(t *testing.T) {
	for _, e := range []struct {
		lines, want string
		many        int
	}{
		{strings.Repeat("\n", 79), "", 79}, {strings.Repeat("\n", 80), "", 80}, {strings.Repeat("\n", 81), "", -2}, {strings.Repeat("\n", 82), "", -2}, {strings.Repeat("\n", 100000), "", -2},
		{strings.Repeat("\n", 79) + "show", "A0 X0 S255 Pc49152 I\n", 80}, {strings.Repeat("\n", 79) + "show\n", "A0 X0 S255 Pc49152 I\n", 80}, {strings.Repeat("\n", 80) + "show", "", -2}, {strings.Repeat("\n", 80) + ";", "", -2}, {strings.Repeat("\n", 80) + " ", "", -2},
		{"show\n" + strings.Repeat("\n", 79), "A0 X0 S255 Pc49152 I\n", 80}, {"show\n" + strings.Repeat("\n", 80), "", -2},
		{strings.Repeat("frames\n", 80), strings.Repeat("0\n", 80), 80}, {strings.Repeat("frames\n", 79) + "frames", strings.Repeat("0\n", 80), 80}, {strings.Repeat("frames\n", 81), "", -2}, {strings.Repeat("frames\n", 80) + "frames", "", -2},
		{strings.Repeat(";\n", 80), "", 80}, {strings.Repeat(";\n", 81), "", -2}, {strings.Repeat("x\n", 80), strings.Repeat("what\n", 80), 80}, {strings.Repeat("x\n", 81), "", -2},
		{strings.Repeat("x", 100000), "what\n", 1}, {strings.Repeat("x", 100000) + strings.Repeat("\n", 80), "what\n", 80}, {strings.Repeat("x", 100000) + strings.Repeat("\n", 81), "", -2}, {strings.Repeat("\r", 500), "what\n", 1},
	} {
		checkSession(t, handText, []int{1}, 3, e.lines, e.want, e.many)
	}
}

// TestSessionWithoutASetup: whatever the lines are, also with more than there may be.
func TestSessionWithoutASetup(t *testing.T) {
	for _, lines := range []string{"", "\n", "cpu", "cpu\nshow\n", "\xff", strings.Repeat("\n", 80), strings.Repeat("\n", 81), strings.Repeat("cpu\n", 5000)} {
		for text := range noPrograms() {
			checkSession(t, text, []int{2}, 1, lines, "", -1)
			checkSession(t, text, padsOf(21), 0, lines, "", -1)
		}
		for _, cap := range noRings {
			checkSession(t, handText, nil, cap, lines, "", -1)
		}
		for _, pads := range wrongPads() {
			checkSession(t, handText, pads, 4, lines, "", -1)
		}
	}
}

// deskAnswers are all functions of the chapter; Do with a line of each kind.
func deskAnswers() map[string]func(impl.Split) impl.Split {
	answers := map[string]func(impl.Split) impl.Split{
		"Setup": func(s impl.Split) impl.Split { got, _ := impl.Setup(handText, s.Pads, s.Sound.Ring.Cap); return got },
		"Session": func(s impl.Split) impl.Split {
			_, n := impl.Session(handText, s.Pads, s.Sound.Ring.Cap, "cpu\nlevel\nfair 9\nshow")
			return impl.Split{T: n}
		},
	}
	for _, line := range []string{"", ";", "cpu", "picture", "sound", "level", "fair 0", "fair 1", "fair 12", "fair", "wait", "show", "frames", "samples", "judge", "what"} {
		answers[fmt.Sprintf("Do of %q", line)] = func(s impl.Split) impl.Split { got, _ := impl.Do(s, line); return got }
	}
	return answers
}

func TestDeskAnswersAreNewMemory(t *testing.T) { checkNewSplits(t, deskAnswers()) }

func TestDeskListsThatShareOneRoom(t *testing.T) { checkSharingSplits(t, deskAnswers()) }

// TestDeskAnswersHangOnNoGoroutine: the same asked again and again, by many at a time, however many run at once.
func TestDeskAnswersHangOnNoGoroutine(t *testing.T) {
	some := someDesks(t)
	for n, name := range slices.Sorted(maps.Keys(some)) {
		if n%6 > 0 {
			delete(some, name)
		}
	}
	some["zero"], some["wrong"] = impl.Split{}, wrongSplits()["Ctrl 256"]
	lines := []string{"cpu", "picture", "sound", "level", "fair 9", "wait", "show", "frames", "samples", "judge", "", ";", "fair 01", "x"}
	type answer struct {
		s    impl.Split
		said string
	}
	want := map[string]answer{}
	for name, s := range some {
		for _, line := range lines {
			got, said := impl.Do(copyOfSplit(s), line)
			want[line+" "+name] = answer{got, said}
		}
	}
	session := func(seed int) string {
		told, many := impl.Session(deskText(seed), padsOf(seed), 1+seed, mixedLines(seed*3, 20))
		s, how := impl.Setup(deskText(seed), padsOf(seed), seed)
		return fmt.Sprint(told, many, how, tellSplit(s))
	}
	var sessions []string
	for seed := range 6 {
		sessions = append(sessions, session(seed))
	}
	for _, procs := range []int{1, 2, 8} {
		before := runtime.GOMAXPROCS(procs)
		var all sync.WaitGroup
		for range 6 {
			all.Go(func() {
				for name, s := range some {
					for _, line := range lines {
						if got, said := impl.Do(s, line); said != want[line+" "+name].said || !sameSplit(got, want[line+" "+name].s) {
							t.Errorf("%q of %s: another answer: %q, %s", line, name, said, tellSplit(got))
						}
					}
				}
				for seed := range sessions {
					if got := session(seed); got != sessions[seed] {
						t.Errorf("session %d: another answer: %q", seed, got)
					}
				}
			})
		}
		all.Wait()
		runtime.GOMAXPROCS(before)
	}
}
