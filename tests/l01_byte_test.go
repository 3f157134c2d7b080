package tests

import (
	"math"
	"testing"

	"loop.example/g00231/impl"
)

// byteEdges: numbers with what each is as a byte and as an address, written by hand.
var byteEdges = []struct{ x, asByte, asAddr int }{
	{0, 0, 0},
	{1, 1, 1},
	{127, 127, 127},
	{128, 128, 128},
	{129, 129, 129},
	{254, 254, 254},
	{255, 255, 255},
	{256, 0, 256},
	{257, 1, 257},
	{511, 255, 511},
	{512, 0, 512},
	{-1, 255, 65535},
	{-2, 254, 65534},
	{-127, 129, 65409},
	{-128, 128, 65408},
	{-129, 127, 65407},
	{-255, 1, 65281},
	{-256, 0, 65280},
	{-257, 255, 65279},
	{32767, 255, 32767},
	{32768, 0, 32768},
	{65535, 255, 65535},
	{65536, 0, 0},
	{65537, 1, 1},
	{-65535, 1, 1},
	{-65536, 0, 0},
	{-65537, 255, 65535},
	{1 << 31, 0, 0},
	{-1<<31 - 1, 255, 65535},
	{math.MaxInt, 255, 65535},
	{math.MaxInt - 1, 254, 65534},
	{math.MinInt, 0, 0},
	{math.MinInt + 1, 1, 1},
}

var bothCarries = []bool{false, true}

func one(b bool) int {
	if b {
		return 1
	}
	return 0
}

// wrapped says by plain counting what a small number is as a byte.
func wrapped(x int) int {
	for x < 0 {
		x += 256
	}
	for x > 255 {
		x -= 256
	}
	return x
}

func TestByteAndAddrAtEdges(t *testing.T) {
	for _, e := range byteEdges {
		if got := impl.Byte(e.x); got != e.asByte {
			t.Errorf("Byte(%d) = %d, want %d", e.x, got, e.asByte)
		}
		if got := impl.Addr(e.x); got != e.asAddr {
			t.Errorf("Addr(%d) = %d, want %d", e.x, got, e.asAddr)
		}
	}
}

func TestByteAndAddrWrapRound(t *testing.T) {
	asByte, asAddr := 0, 0
	for x := -2 * 65536; x <= 2*65536; x++ {
		if got := impl.Byte(x); got != asByte {
			t.Fatalf("Byte(%d) = %d, want %d", x, got, asByte)
		}
		if got := impl.Addr(x); got != asAddr {
			t.Fatalf("Addr(%d) = %d, want %d", x, got, asAddr)
		}
		if asByte++; asByte == 256 {
			asByte = 0
		}
		if asAddr++; asAddr == 65536 {
			asAddr = 0
		}
	}
}

func TestAdd8AndSub8ByHand(t *testing.T) {
	for _, e := range []struct {
		a, b  int
		carry bool
		sum   int
		above bool
		rest  int
		not   bool
	}{
		{0, 0, false, 0, false, 255, false},
		{0, 0, true, 1, false, 0, true},
		{5, 3, false, 8, false, 1, true},
		{5, 3, true, 9, false, 2, true},
		{5, 5, false, 10, false, 255, false},
		{5, 5, true, 11, false, 0, true},
		{127, 128, false, 255, false, 254, false},
		{127, 128, true, 0, true, 255, false},
		{128, 127, false, 255, false, 0, true},
		{128, 128, false, 0, true, 255, false},
		{255, 0, true, 0, true, 255, true},
		{255, 255, false, 254, true, 255, false},
		{255, 255, true, 255, true, 0, true},
		{0, 255, false, 255, false, 0, false},
		{0, 255, true, 0, true, 1, false},
		{256, 1, true, 2, false, 255, false},
		{-1, 1, false, 0, true, 253, true},
		{1, -1, true, 1, true, 2, false},
		{math.MaxInt, math.MaxInt, true, 255, true, 0, true},
		{math.MinInt, math.MinInt, true, 1, false, 0, true},
		{math.MinInt, math.MaxInt, false, 255, false, 0, false},
		{math.MaxInt, math.MinInt, true, 0, true, 255, true},
	} {
		if got, c := impl.Add8(e.a, e.b, e.carry); got != e.sum || c != e.above {
			t.Errorf("Add8(%d, %d, %v) = %d, %v, want %d, %v", e.a, e.b, e.carry, got, c, e.sum, e.above)
		}
		if got, c := impl.Sub8(e.a, e.b, e.carry); got != e.rest || c != e.not {
			t.Errorf("Sub8(%d, %d, %v) = %d, %v, want %d, %v", e.a, e.b, e.carry, got, c, e.rest, e.not)
		}
	}
}

// checkSumAndRest holds Add8 and Sub8 of x and y against plain counting with the bytes a and b that these are.
func checkSumAndRest(t *testing.T, x, y, a, b int) {
	t.Helper()
	for _, carry := range bothCarries {
		sum := a + b + one(carry)
		if got, c := impl.Add8(x, y, carry); got != wrapped(sum) || c != (sum > 255) {
			t.Fatalf("Add8(%d, %d, %v) = %d, %v, want %d, %v", x, y, carry, got, c, wrapped(sum), sum > 255)
		}
		rest := a - b - one(!carry)
		if got, c := impl.Sub8(x, y, carry); got != wrapped(rest) || c != (rest >= 0) {
			t.Fatalf("Sub8(%d, %d, %v) = %d, %v, want %d, %v", x, y, carry, got, c, wrapped(rest), rest >= 0)
		}
	}
}

func TestAdd8AndSub8OfAllBytes(t *testing.T) {
	for a := range 256 {
		for b := range 256 {
			checkSumAndRest(t, a, b, a, b)
		}
	}
}

func TestAdd8AndSub8AtEdges(t *testing.T) {
	for _, e := range byteEdges {
		for _, f := range byteEdges {
			checkSumAndRest(t, e.x, f.x, e.asByte, f.asByte)
		}
	}
}

// checkTakenAway: what Add8 adds to a, Sub8 takes away again: the carry that was added is one that is
// not spared, and the sum went above 255 just where taking away goes below 0. The other way round likewise.
func checkTakenAway(t *testing.T, a, b, asByte int) {
	t.Helper()
	for _, carry := range bothCarries {
		sum, above := impl.Add8(a, b, carry)
		if back, notBelow := impl.Sub8(sum, b, !carry); back != asByte || notBelow == above {
			t.Fatalf("Add8(%d, %d, %v) = %d, %v, but Sub8 takes that back to %d, %v", a, b, carry, sum, above, back, notBelow)
		}
		rest, notBelow := impl.Sub8(a, b, carry)
		if back, above := impl.Add8(rest, b, !carry); back != asByte || notBelow == above {
			t.Fatalf("Sub8(%d, %d, %v) = %d, %v, but Add8 brings that back to %d, %v", a, b, carry, rest, notBelow, back, above)
		}
	}
}

func TestP1WhatIsAddedIsTakenAwayAgain(t *testing.T) {
	for a := range 256 {
		for b := range 256 {
			checkTakenAway(t, a, b, a)
		}
	}
	for _, e := range byteEdges {
		for _, f := range byteEdges {
			checkTakenAway(t, e.x, f.x, e.asByte)
		}
	}
}

func TestSigns(t *testing.T) {
	for x := range 256 {
		if zero, high := impl.Signs(x); zero != (x == 0) || high != (x > 127) {
			t.Errorf("Signs(%d) = %v, %v", x, zero, high)
		}
	}
	for _, e := range byteEdges {
		if zero, high := impl.Signs(e.x); zero != (e.asByte == 0) || high != (e.asByte > 127) {
			t.Errorf("Signs(%d) = %v, %v", e.x, zero, high)
		}
	}
}

func TestJoin(t *testing.T) {
	for lo := range 256 {
		for hi := range 256 {
			if got := impl.Join(lo, hi); got != lo+256*hi {
				t.Fatalf("Join(%d, %d) = %d, want %d", lo, hi, got, lo+256*hi)
			}
		}
	}
	for _, e := range byteEdges {
		for _, f := range byteEdges {
			if got := impl.Join(e.x, f.x); got != e.asByte+256*f.asByte {
				t.Errorf("Join(%d, %d) = %d, want %d", e.x, f.x, got, e.asByte+256*f.asByte)
			}
		}
	}
}
