package tests

import (
	"math"
	"regexp"
	"slices"
	"strconv"
	"strings"
	"sync"
	"testing"

	"loop.example/g00231/impl"
)

// bankFrom is a bank with these bytes from a place on, behind its last place at 0, and 0 everywhere else.
func bankFrom(at int, list ...int) []int {
	bank := make([]int, 256)
	for i, v := range list {
		bank[(at+i)%256] = v
	}
	return bank
}

func checkAssembled(t *testing.T, text string, want []int) {
	t.Helper()
	if got, how := impl.Assemble(text); how != 0 || !slices.Equal(got, want) {
		t.Errorf("Assemble(%.80q) = %v, %d, want %v, 0", text, got, how, want)
	}
}

func checkRefused(t *testing.T, text string, want int) {
	t.Helper()
	if got, how := impl.Assemble(text); how != want || len(got) != 0 {
		t.Errorf("Assemble(%.80q) = %v, %d, want nothing, %d", text, got, how, want)
	}
}

// checkNoLine refuses a line alone, behind and ahead of others, with and without a byte 10 at the end.
func checkNoLine(t *testing.T, line string) {
	t.Helper()
	checkRefused(t, line, 1)
	checkRefused(t, line+"\n", 1)
	checkRefused(t, line+"\nnop\n", 1)
	checkRefused(t, "nop\nldi 5\n"+line, 3)
	checkRefused(t, "nop\n\n"+line+"\n", 3)
}

// wordsWithNumber are all words that want a number, with the greatest one.
func wordsWithNumber() map[string]int {
	words := map[string]int{"byte": 255, "at": 255}
	for _, w := range opTable {
		switch w.bytes {
		case 2:
			words[w.name] = 255
		case 3:
			words[w.name] = 65535
		}
	}
	return words
}

// bytesOf is what a line of an op of the table is put as, by hand.
func bytesOf(w opWords, n int) []int {
	switch w.bytes {
	case 1:
		return []int{w.op}
	case 2:
		return []int{w.op, n}
	default:
		return []int{w.op, n % 256, n / 256}
	}
}

func TestAsmConstants(t *testing.T) {
	if impl.MaxText != 3000 {
		t.Error("MaxText", impl.MaxText)
	}
}

func TestEachOpIsAssembled(t *testing.T) {
	for _, w := range opTable {
		if w.bytes == 1 {
			checkAssembled(t, w.name, bankFrom(0, w.op))
			checkAssembled(t, "at 40\n"+w.name+"\n", bankFrom(40, w.op))
			continue
		}
		most := wordsWithNumber()[w.name]
		for _, n := range []int{0, 1, 9, 10, 99, 100, 127, 128, 200, 254, 255, 256, 257, 511, 999, 1000, 9999, 10000, 32768, 65280, 65534, 65535} {
			if n > most {
				continue
			}
			line := w.name + " " + strconv.Itoa(n)
			checkAssembled(t, line, bankFrom(0, bytesOf(w, n)...))
			checkAssembled(t, "at 40\n"+line+"\ninx", bankFrom(40, append(bytesOf(w, n), 12)...))
		}
	}
}

func TestByteAndAt(t *testing.T) {
	for n := range 256 {
		digits := strconv.Itoa(n)
		checkAssembled(t, "byte "+digits, bankFrom(0, n))
		checkAssembled(t, "byte "+digits+"\nbyte 3", bankFrom(0, n, 3))
		checkAssembled(t, "at "+digits, bankFrom(0))
		checkAssembled(t, "at "+digits+"\nbyte 9", bankFrom(n, 9))
		checkAssembled(t, "inx\nat "+digits+"\nbyte 12", bankFrom0And(n, 12))
	}
	checkAssembled(t, "at 5\nat 9\nbyte 3", bankFrom(9, 3))
	checkAssembled(t, "byte 1\nbyte 2\nat 0\nbyte 7", bankFrom(0, 7, 2))
	checkAssembled(t, "jmp 65535\nat 1\nbyte 0", bankFrom(0, 19, 0, 255))
	checkAssembled(t, "byte 4\nat 0", bankFrom(0, 4))
}

// bankFrom0And has the byte at 0 and at another place.
func bankFrom0And(at int, v int) []int {
	bank := bankFrom(0, v)
	bank[at] = v
	return bank
}

func TestNumbersOneBeyond(t *testing.T) {
	for word, most := range wordsWithNumber() {
		if _, how := impl.Assemble(word + " " + strconv.Itoa(most)); how != 0 {
			t.Error(word, most, how)
		}
		for _, n := range []int{most + 1, most + 2, most + 10, 2*most + 2, 65536, 65536 + 5, 1 << 32, 1<<32 + 5, math.MaxInt} {
			checkNoLine(t, word+" "+strconv.Itoa(n))
		}
	}
}

func TestNumbersThatAreNone(t *testing.T) {
	wrong := []string{
		"00", "01", "05", "007", "0255", "00255", "000", "065535", strings.Repeat("0", 200), strings.Repeat("0", 200) + "5",
		"", " ", "  ", "+", "-", "+0", "-0", "+1", "-1", "-255", "-65536",
		"1.0", "1e1", "0x1", "0b1", "0o7", "1_0", "a", "x", "5a", "a5", "5a5", "$5", "#5", "/", ":", "5/", "5:",
		"9223372036854775807", "9223372036854775808", "-9223372036854775808", "18446744073709551615",
		"18446744073709551616", "18446744073709551621", "340282366920938463463374607431768211461",
		strings.Repeat("1", 200), strings.Repeat("9", 1000), "1" + strings.Repeat("0", 64),
		"1 ", " 1", "1 1", "1\t", "\t1", "1\r", "1\x00", "\x001", "1\x80", "\xff1", "1,", "1;",
		"\u0663", "\uff15", "5\u0301", "\u00b2", "5\u00a0", "\U0001d7db", "\xf0\x9f", "5\xc3",
	}
	for word := range wordsWithNumber() {
		for _, digits := range wrong {
			checkNoLine(t, word+" "+digits)
		}
	}
}

func TestNamesAlone(t *testing.T) {
	for word := range wordsWithNumber() {
		for _, line := range []string{word, word + " ", word + "5", word + "\t5", word + "\u00a05", word + "=5", word + ",5"} {
			checkNoLine(t, line)
		}
	}
	for _, w := range opTable {
		if w.bytes != 1 {
			continue
		}
		for _, behind := range []string{" ", "  ", " 0", " 1", " 255", " 256", " nop", "\t", "1", " x"} {
			checkNoLine(t, w.name+behind)
		}
	}
}

func TestBlanksAndCapitals(t *testing.T) {
	lines := []string{}
	for _, w := range opTable {
		if w.bytes == 1 {
			lines = append(lines, w.name)
		}
	}
	for word := range wordsWithNumber() {
		lines = append(lines, word+" 5")
	}
	for _, line := range lines {
		if _, how := impl.Assemble(line); how != 0 {
			t.Error(line, how)
		}
		for _, wrong := range []string{
			" " + line, line + " ", "  " + line, "\t" + line, line + "\t", line + "\v", line + ";", line + " ; why",
			strings.ToUpper(line), strings.ToUpper(line[:1]) + line[1:], line[:1] + strings.ToUpper(line[1:2]) + line[2:],
			line + " " + line, line + line, line[1:], line[:1] + " " + line[1:],
		} {
			checkNoLine(t, wrong)
		}
		if strings.Contains(line, " ") {
			checkNoLine(t, strings.Replace(line, " ", "  ", 1))
			checkNoLine(t, strings.Replace(line, " ", "", 1))
			checkNoLine(t, strings.Replace(line, " ", " \t", 1))
		}
	}
}

func TestLinesThatAreNone(t *testing.T) {
	for _, line := range []string{
		" ", "  ", "\t", "\r", "\x00", "fly", "fly 1", "5", "0", "-1", "no", "nopp", "bytes 1", "byt 1", "ats 1", "a 1", "t 1",
		"; why", "#", "nop;", "nop:", "byte 1 2", "byte 1,2", "at at 1", "at 1 nop", "nop nop", "ldi ldi 1", "ldi byte 1",
		"\u00e9", "\xff", "\xc3", "\xe2\x82", "\xf0\x9f\x98", "n\xc3p", "ñop", "\ufeffnop", "nop\u2028", "nop\u0085",
		strings.Repeat("n", 2000), strings.Repeat(" ", 2000), strings.Repeat("\xf0", 2000),
	} {
		checkNoLine(t, line)
	}
}

func TestAnyByteAheadOrBehind(t *testing.T) {
	for v := range 256 {
		if v == 10 {
			continue
		}
		b := string([]byte{byte(v)})
		checkNoLine(t, b)
		checkNoLine(t, b+"nop")
		checkNoLine(t, "nop"+b)
		checkNoLine(t, b+"ldi 25")
		if v < '0' || v > '9' {
			checkNoLine(t, "ldi 2"+b)
			checkNoLine(t, "ldi "+b+"2")
			checkNoLine(t, "jmp 2"+b+"2")
		}
		if v != ' ' {
			checkNoLine(t, "ldi"+b+"25")
		}
	}
}

func TestEmptyLines(t *testing.T) {
	want := bankFrom(0, 1, 5, 12)
	for _, text := range []string{
		"ldi 5\ninx", "ldi 5\ninx\n", "ldi 5\ninx\n\n\n", "\nldi 5\ninx", "\n\n\nldi 5\ninx\n", "ldi 5\n\ninx", "ldi 5\n\n\n\ninx\n\n",
		"\n\nldi 5\n\n\ninx\n\n",
	} {
		checkAssembled(t, text, want)
	}
	for _, text := range []string{"", "\n", "\n\n", "\n\n\n\n\n", "nop", "nop\n", "at 7\n", "byte 0\n"} {
		checkAssembled(t, text, bankFrom(0))
	}
}

func TestTheNumberOfALineCountsEmptyOnes(t *testing.T) {
	checkRefused(t, "fly", 1)
	checkRefused(t, "\nfly", 2)
	checkRefused(t, "\n\n\nfly\n", 4)
	checkRefused(t, "nop\n\nfly", 3)
	checkRefused(t, "nop\n\n\nnop\n\nfly\n\n", 6)
	checkRefused(t, strings.Repeat("\n", 2000)+"fly", 2001)
	checkRefused(t, strings.Repeat("nop\n", 700)+"fly", 701)
}

func TestByte13EndsNoLine(t *testing.T) {
	checkRefused(t, "nop\r\nnop\r\n", 1)
	checkRefused(t, "nop\rnop", 1)
	checkRefused(t, "nop\n\r\nnop", 2)
	checkRefused(t, "nop\nldi 5\r", 2)
	checkRefused(t, "nop\nnop\x00", 2)
	checkRefused(t, "nop\nnop\n\x00", 3)
}

func TestWhatIsNoRuneHidesNoLine(t *testing.T) {
	for _, piece := range []string{"\xc3", "\xe2\x82", "\xf0\x9f\x98", "\xff", "\x80\x80", "\u20ac", "\ufffd", "\xed\xa0\x80"} {
		checkRefused(t, piece+"\nfly\n", 1)
		checkRefused(t, "nop\n"+piece+"\nfly\n", 2)
		checkRefused(t, "nop\n"+piece+piece+"\n\nfly\n", 2)
		checkRefused(t, "nop\nldi 1"+piece+"\nnop", 2)
	}
}

func TestTheFirstFaultCounts(t *testing.T) {
	checkRefused(t, "fly\nfly", 1)
	checkRefused(t, "nop\nldi 256\nfly\n", 2)
	checkRefused(t, "nop\nnop\nfly\nldi 256\n", 3)
	checkRefused(t, "\nat 256\nbyte\nNOP\n", 2)
	checkRefused(t, "at 255\njmp 65535\nnop 1\nnop\nldi", 3)
}

func TestTheEndOfABank(t *testing.T) {
	checkAssembled(t, "at 255\ninx\ndex", bankFrom(255, 12, 13))
	checkAssembled(t, "at 255\nbyte 7\nbyte 8", bankFrom(255, 7, 8))
	checkAssembled(t, "at 254\nldi 9\ninx", bankFrom(254, 1, 9, 12))
	checkAssembled(t, "at 255\nldi 9\ninx", bankFrom(255, 1, 9, 12))
	checkAssembled(t, "at 253\njmp 513\ninx", bankFrom(253, 19, 1, 2, 12))
	checkAssembled(t, "at 254\njmp 513\ninx", bankFrom(254, 19, 1, 2, 12))
	checkAssembled(t, "at 255\njmp 513\ninx", bankFrom(255, 19, 1, 2, 12))
	checkAssembled(t, "byte 9\nbyte 9\nbyte 9\nbyte 9\nat 255\njmp 0\n", bankFrom(255, 19, 0, 0, 9, 9))
	checkAssembled(t, "at 255\njmp 513\nat 255\njmp 513\n", bankFrom(255, 19, 1, 2))
}

func TestATextGoesOnAtNought(t *testing.T) {
	var text strings.Builder
	want := make([]int, 256)
	for n := range 330 {
		v := (n*7 + 3) % 256
		text.WriteString("byte " + strconv.Itoa(v) + "\n")
		want[n%256] = v
		if n == 254 || n == 255 || n == 256 || n == 329 {
			checkAssembled(t, text.String(), want)
		}
	}
	checkAssembled(t, strings.Repeat("lda 1\n", 256)+"inx", bankWith(roundAndRound(768, 2, 1, 0), 12))
	checkAssembled(t, strings.Repeat("sta 770\n", 86), roundAndRound(258, 3, 2, 3))
}

// roundAndRound puts so many bytes into a bank, going round a row of them and round the bank.
func roundAndRound(many int, row ...int) []int {
	bank := make([]int, 256)
	for n := range many {
		bank[n%256] = row[n%len(row)]
	}
	return bank
}

// bankWith is a bank with some bytes in place of its first ones.
func bankWith(bank []int, first ...int) []int {
	return append(slices.Clone(first), bank[len(first):]...)
}

func TestTextsOfMaxText(t *testing.T) {
	nops := strings.Repeat("nop\n", 750)
	if len(nops) != impl.MaxText {
		t.Fatal(len(nops))
	}
	checkAssembled(t, nops, bankFrom(0))
	checkRefused(t, nops+"\n", -1)
	checkAssembled(t, strings.Repeat("\n", 2995)+"ldi 5", bankFrom(0, 1, 5))
	checkRefused(t, strings.Repeat("\n", 2996)+"ldi 5", -1)
	checkAssembled(t, strings.Repeat("\n", 3000), bankFrom(0))
	checkRefused(t, strings.Repeat("\n", 3001), -1)
	checkRefused(t, strings.Repeat("nop\n", 100000), -1)
	checkRefused(t, strings.Repeat("\n", 2997)+"fly", 2998)
}

// The chapter names the line that is none first, and what is named first counts over the whole argument.
func TestALineThatIsNoneCountsAheadOfALongText(t *testing.T) {
	checkRefused(t, strings.Repeat("nop\n", 751)+"fly", 752)
	checkRefused(t, "fly\n"+strings.Repeat("nop\n", 751), 1)
	checkRefused(t, strings.Repeat("\n", 2998)+"fly", 2999)
	checkRefused(t, strings.Repeat("x", 3001), 1)
}

func TestLineOfEachOp(t *testing.T) {
	for _, w := range opTable {
		for _, behind := range [][]int{{0, 0}, {5, 1}, {255, 255}, {0, 192}, {255, 0}, {0, 255}, {-1, -2}, {256, 511}, {-256, 257}} {
			list := append([]int{77, w.op}, behind...)
			lo, hi := wrapped(behind[0]), wrapped(behind[1])
			want := w.name
			switch w.bytes {
			case 2:
				want += " " + strconv.Itoa(lo)
			case 3:
				want += " " + strconv.Itoa(lo+256*hi)
			}
			checkLineOf(t, list, 1, want, w.bytes)
		}
		if w.bytes == 1 {
			checkLineOf(t, []int{w.op}, 0, w.name, 1)
		} else {
			checkLineOf(t, []int{w.op}, 0, w.name+" 0", w.bytes)
			checkLineOf(t, []int{w.op, 200}, 0, w.name+" 200", w.bytes)
		}
		for _, round := range []int{-512, -256, 256, 65536, 1 << 32, -1 << 40} {
			if got, size := impl.LineOf([]int{w.op + round, 0, 0}, 0); !strings.HasPrefix(got, w.name) || size != w.bytes {
				t.Errorf("%s and %d: %q, %d", w.name, round, got, size)
			}
		}
	}
	checkLineOf(t, []int{2, 5, 1}, 0, "lda 261", 3)
	checkLineOf(t, []int{19, 0, 192}, 0, "jmp 49152", 3)
}

func checkLineOf(t *testing.T, list []int, at int, want string, wantSize int) {
	t.Helper()
	if got, size := impl.LineOf(list, at); got != want || size != wantSize {
		t.Errorf("LineOf(%v, %d) = %q, %d, want %q, %d", list, at, got, size, want, wantSize)
	}
}

func TestLineOfWhatIsNoOp(t *testing.T) {
	for v := 30; v < 256; v++ {
		want := "byte " + strconv.Itoa(v)
		checkLineOf(t, []int{v}, 0, want, 1)
		checkLineOf(t, []int{0, v, 7}, 1, want, 1)
		checkLineOf(t, []int{v - 256}, 0, want, 1)
		checkLineOf(t, []int{v + 256}, 0, want, 1)
	}
	checkLineOf(t, []int{-1}, 0, "byte 255", 1)
	checkLineOf(t, []int{math.MaxInt}, 0, "byte 255", 1)
	checkLineOf(t, []int{math.MinInt}, 0, "nop", 1)
}

// noPlaces are no places of a list of that length.
func noPlaces(length int) []int {
	return []int{-1, -2, -256, math.MinInt, math.MinInt + 1, length, length + 1, length + 2, length + 256, math.MaxInt - 1, math.MaxInt}
}

func TestPlacesThatAreNone(t *testing.T) {
	for _, list := range [][]int{nil, {}, {1}, {2, 5, 1}, make([]int, 256), make([]int, 300)} {
		for _, at := range noPlaces(len(list)) {
			checkLineOf(t, list, at, "", 0)
			for _, many := range []int{-1, 0, 1, 256, math.MaxInt} {
				if got := impl.Listing(list, at, many); got != "" {
					t.Errorf("Listing of %d bytes from %d: %q", len(list), at, got)
				}
			}
		}
		if len(list) > 0 {
			if _, size := impl.LineOf(list, len(list)-1); size == 0 {
				t.Error("the last place of", len(list))
			}
		}
	}
}

func TestListing(t *testing.T) {
	list := []int{1, 5, 12, 19, 0, 192, 99, -1, 2, 7}
	for _, c := range []struct {
		from, many int
		want       string
	}{
		{0, 9, "ldi 5\ninx\njmp 49152\nbyte 99\nbyte 255\nlda 7\n"},
		{0, 6, "ldi 5\ninx\njmp 49152\nbyte 99\nbyte 255\nlda 7\n"},
		{0, 5, "ldi 5\ninx\njmp 49152\nbyte 99\nbyte 255\n"},
		{0, 1, "ldi 5\n"},
		{1, 2, "sbi 12\njmp 49152\n"},
		{3, 2, "jmp 49152\nbyte 99\n"},
		{9, 1, "ori 0\n"},
		{9, 9, "ori 0\n"},
		{0, 0, ""},
		{0, -1, ""},
		{5, math.MinInt, ""},
		{8, math.MaxInt, "lda 7\n"},
	} {
		if got := impl.Listing(list, c.from, c.many); got != c.want {
			t.Errorf("Listing from %d, %d: %q, want %q", c.from, c.many, got, c.want)
		}
	}
}

func TestListingOfSoMany(t *testing.T) {
	ones := make([]int, 300)
	threes := slices.Repeat([]int{2, 1, 2}, 300)
	for many, want := range map[int]int{
		math.MinInt: 0, -256: 0, -1: 0, 0: 0, 1: 1, 2: 2, 255: 255, 256: 256, 257: 256, 299: 256, 1 << 40: 256, math.MaxInt: 256,
	} {
		if got := impl.Listing(ones, 0, many); got != strings.Repeat("nop\n", want) {
			t.Errorf("%d of nops: %d lines", many, strings.Count(got, "\n"))
		}
		if got := impl.Listing(threes, 3, many); got != strings.Repeat("lda 513\n", want) {
			t.Errorf("%d of ldas: %d lines", many, strings.Count(got, "\n"))
		}
		if got := impl.Listing(ones, 298, many); got != strings.Repeat("nop\n", min(want, 2)) {
			t.Errorf("%d of the last nops: %q", many, got)
		}
	}
	if got := impl.Listing(ones[:256], 0, 257); strings.Count(got, "\n") != 256 {
		t.Error("a whole bank", strings.Count(got, "\n"))
	}
}

func TestListingIsLineOfAgainAndAgain(t *testing.T) {
	for seed := range 40 {
		list := mixedBytes(seed, 10*seed)
		for _, from := range []int{0, 1, 2, len(list) / 2, len(list) - 1} {
			for _, many := range []int{0, 1, 2, 17, 256} {
				want, at := "", from
				for range many {
					line, size := impl.LineOf(list, at)
					if size == 0 {
						break
					}
					want += line + "\n"
					at += size
				}
				if got := impl.Listing(list, from, many); got != want {
					t.Fatalf("seed %d from %d, %d: %q, want %q", seed, from, many, got, want)
				}
			}
		}
	}
}

// mixedBytes is a list of ops, of what is none, of raw numbers and of such below nought.
func mixedBytes(seed int, length int) []int {
	list := make([]int, length)
	next := uint32(seed)*2654435761 + 12345
	for i := range list {
		next = next*1664525 + 1013904223
		v := int(next >> 8 & 255)
		switch next >> 28 {
		case 0, 1, 2, 3, 4, 5, 6, 7:
			v %= 30
		case 8:
			v -= 256 * (v%5 + 1)
		case 9:
			v += 256 * (v%5 + 1)
		case 10:
			v -= 65536
		}
		list[i] = v
	}
	return list
}

// bytesAt are as many bytes as told from a place of a list on, as bytes, 0 beyond the end.
func bytesAt(list []int, at int, many int) []int {
	got := make([]int, many)
	for i := range got {
		if at+i < len(list) {
			got[i] = wrapped(list[at+i])
		}
	}
	return got
}

func TestP4AListedLineIsAssembledToItsBytes(t *testing.T) {
	for seed := range 30 {
		list := mixedBytes(seed, 20+seed)
		for at := range list {
			line, size := impl.LineOf(list, at)
			want := bytesAt(list, at, size)
			for _, put := range []int{0, at, 253, 254, 255} {
				checkAssembled(t, "at "+strconv.Itoa(put)+"\n"+line, bankFrom(put, want...))
			}
		}
	}
	for v := -300; v < 600; v++ {
		for _, list := range [][]int{{v}, {v, -1}, {v, 1, -1}, {v, 255, 255, 255}, {v, 0, 255}} {
			line, size := impl.LineOf(list, 0)
			checkAssembled(t, line, bankFrom(0, bytesAt(list, 0, size)...))
		}
	}
}

func TestP4WhatIsListedIsAssembledToItsBytes(t *testing.T) {
	for seed := range 300 {
		list := mixedBytes(seed, seed%255)
		checkAssembled(t, impl.Listing(list, 0, 256), bytesAt(list, 0, 256))
		if len(list) > 0 {
			from := seed % len(list)
			text := "at " + strconv.Itoa(from) + "\n" + impl.Listing(list, from, 256)
			want := append(make([]int, from), bytesAt(list, from, 256-from)...)
			checkAssembled(t, text, want)
		}
	}
	whole := make([]int, 256)
	for at := range whole {
		whole[at] = 255 - at
	}
	// Its last bytes are ops 3, 2, 1, 0: a sta that the end doesn't cut.
	checkAssembled(t, impl.Listing(whole, 0, 256), whole)
}

func TestP4ABankWhoseLastOpIsCutShort(t *testing.T) {
	list := slices.Repeat([]int{12}, 256)
	list[255] = 2
	text := impl.Listing(list, 0, 256)
	if text != strings.Repeat("inx\n", 255)+"lda 0\n" {
		t.Fatalf("listed: %q", text)
	}
	// The number of the last line goes on at 0.
	checkAssembled(t, text, bankWith(list, 0, 0))
	list[254], list[255] = 2, 7
	checkAssembled(t, impl.Listing(list, 0, 256), bankWith(list, 0))
}

func TestP4WhatIsAssembledIsListed(t *testing.T) {
	var text strings.Builder
	for n, w := range opTable {
		text.WriteString(w.name)
		if w.bytes == 2 {
			text.WriteString(" " + strconv.Itoa(8*n+7))
		} else if w.bytes == 3 {
			text.WriteString(" " + strconv.Itoa(2222*n+99))
		}
		text.WriteString("\nbyte " + strconv.Itoa(30+7*n) + "\n")
	}
	bank, how := impl.Assemble(text.String())
	if how != 0 || impl.Listing(bank, 0, 60) != text.String() {
		t.Errorf("%d, %q", how, impl.Listing(bank, 0, 60))
	}
}

var lineForm = regexp.MustCompile(`^([a-z]+)(?: (0|[1-9][0-9]{0,4}))?$`)

// lineBytes says by the form alone what a line is put as: its bytes, where they go (-1: behind the last), and whether it is one.
func lineBytes(line string) ([]int, int, bool) {
	m := lineForm.FindStringSubmatch(line)
	if m == nil {
		return nil, -1, false
	}
	n := -1
	if m[2] != "" {
		n, _ = strconv.Atoi(m[2])
	}
	switch {
	case m[1] == "byte":
		return []int{n}, -1, n >= 0 && n < 256
	case m[1] == "at":
		return nil, n, n >= 0 && n < 256
	case numberOf(m[1]) < 0:
		return nil, -1, false
	}
	w := opTable[numberOf(m[1])]
	most, wants := wordsWithNumber()[w.name]
	return bytesOf(w, n), -1, wants && n >= 0 && n <= most || !wants && n < 0
}

// assembledBy puts a text together by lineBytes.
func assembledBy(text string) ([]int, int) {
	bank, next := make([]int, 256), 0
	for i, line := range strings.Split(text, "\n") {
		if line == "" {
			continue
		}
		list, at, ok := lineBytes(line)
		if !ok {
			return nil, i + 1
		}
		if at >= 0 {
			next = at
		}
		for _, v := range list {
			bank[next%256] = v
			next++
		}
	}
	return bank, 0
}

func TestTextsOfManyKindsOfLines(t *testing.T) {
	pieces := []string{"", "", "nop", "inx", "at 250", "at 0", "byte 255", "byte 0", "ldi 77", "jmp 65535", "lda 513", "sax 256", "rti", "at 255"}
	faults := []string{"fly", "ldi", "ldi 256", "nop ", "at 256", "byte 00", "jmp 65536", "Nop", "\xff", "nop\r"}
	for seed := range 3000 {
		next := uint32(seed)*2654435761 + 99
		var text strings.Builder
		for range seed % 23 {
			next = next*1664525 + 1013904223
			if next>>24 < 8 {
				text.WriteString(faults[int(next>>8)%len(faults)])
			} else {
				text.WriteString(pieces[int(next>>8)%len(pieces)])
			}
			if next>>20&15 != 0 {
				text.WriteByte('\n')
			}
		}
		want, wantHow := assembledBy(text.String())
		if got, how := impl.Assemble(text.String()); how != wantHow || !slices.Equal(got, want) {
			t.Fatalf("Assemble(%q) = %v, %d, want %v, %d", text.String(), got, how, want, wantHow)
		}
	}
}

func TestListsAreNotWrittenInto(t *testing.T) {
	room := []int{1, -5, 300, 2, 88, 77, 66, 55}
	before := slices.Clone(room)
	list := room[:4]
	if line, size := impl.LineOf(list, 3); line != "lda 0" || size != 3 {
		t.Error("the spare room behind a list is read:", line, size)
	}
	if got := impl.Listing(list, 0, math.MaxInt); got != "ldi 251\nbyte 44\nlda 0\n" {
		t.Errorf("listed: %q", got)
	}
	for at := -2; at < 10; at++ {
		impl.LineOf(list, at)
		impl.Listing(list, at, 256)
	}
	if !slices.Equal(room, before) {
		t.Error("written into:", room)
	}
}

func TestABankIsNewMemory(t *testing.T) {
	const text = "ldi 5\nsta 513\n"
	first, _ := impl.Assemble(text)
	for i := range first {
		first[i] = -1
	}
	_ = append(first, 1, 2, 3)
	checkAssembled(t, text, bankFrom(0, 1, 5, 3, 1, 2))
	checkAssembled(t, "", bankFrom(0))
	checkRefused(t, "ldi 5\nfly", 2)
	checkAssembled(t, text, bankFrom(0, 1, 5, 3, 1, 2))
}

func TestTextsAssembledByManyAtATime(t *testing.T) {
	var all sync.WaitGroup
	for n := range 16 {
		all.Go(func() {
			for range 50 {
				checkAssembled(t, "at "+strconv.Itoa(n)+"\nldi "+strconv.Itoa(n), bankFrom(n, 1, n))
				checkRefused(t, strings.Repeat("\n", n)+"fly", n+1)
				checkLineOf(t, []int{19, n, 1}, 0, "jmp "+strconv.Itoa(256+n), 3)
			}
		})
	}
	all.Wait()
}
