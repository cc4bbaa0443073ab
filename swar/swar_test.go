package swar

import (
	"math"
	"slices"
	"testing"
)

// The tests hold each call against one that looks at the eight bytes one by one, by other means than the package: division instead of shifts and masks.

// slowLanes is a word's bytes, the lowest one first.
func slowLanes(w uint64) [8]byte {
	var l [8]byte
	for i := range l {
		l[i] = byte(w % 256)
		w /= 256
	}
	return l
}

// slowWord is the word of eight bytes, the lowest one first.
func slowWord(l [8]byte) uint64 {
	var w uint64
	for i := 7; i >= 0; i-- {
		w = w*256 + uint64(l[i])
	}
	return w
}

// slowMask is the mask, its other bits 0, of the lanes that are so.
func slowMask(w uint64, is func(b byte) bool) uint64 {
	var marks [8]byte
	for i, b := range slowLanes(w) {
		if is(b) {
			marks[i] = 0x80
		}
	}
	return slowWord(marks)
}

// slowTold is the lanes that a mask tells, rising.
func slowTold(mask uint64) []int {
	var told []int
	for i, b := range slowLanes(mask) {
		if b >= 0x80 {
			told = append(told, i)
		}
	}
	return told
}

// words gives plain words, words of which each pair of neighbours is equal or nearly equal, and words without a pattern.
func words() []uint64 {
	ws := []uint64{0, 1, 0x80, 0x7F, 0xFF, 1 << 63, math.MaxInt64, math.MaxUint64, 0x0123456789ABCDEF, 0x8080808080808080, 0x7F7F7F7F7F7F7F7F, 0x0101010101010101}
	for i := range 64 {
		ws = append(ws, 1<<i, ^uint64(1<<i))
	}
	for _, b := range []byte{0, 1, 2, 0x41, 0x7E, 0x7F, 0x80, 0x81, 0xFE, 0xFF} {
		for _, near := range []byte{b - 1, b + 1, b ^ 1, b ^ 0x80, b ^ 0xFF, 0} {
			// Each pattern of b and its near one over the eight lanes.
			for pattern := range 256 {
				var l [8]byte
				for i := range l {
					l[i] = b
					if pattern>>i&1 == 1 {
						l[i] = near
					}
				}
				ws = append(ws, slowWord(l))
			}
		}
	}
	x := uint64(88172645463325252)
	for range 2000 {
		x ^= x << 13
		x ^= x >> 7
		x ^= x << 17
		ws = append(ws, x)
	}
	return ws
}

func noLanes() []int {
	return []int{-1, 8, 9, 16, -8, 63, 64, 65, 255, 256, math.MaxInt32, math.MinInt32, math.MaxInt, math.MinInt}
}

// P1.1
func TestRepeatHasTheByteInEachLane(t *testing.T) {
	for n := range 256 {
		b := byte(n)
		if got := slowLanes(Repeat(b)); got != [8]byte{b, b, b, b, b, b, b, b} {
			t.Fatalf("Repeat(%#x) has the lanes %x", b, got)
		}
	}
}

// P1.1
func TestLaneIsTheByteThere(t *testing.T) {
	for _, w := range words() {
		for i, want := range slowLanes(w) {
			if got, is := Lane(w, i); got != want || !is {
				t.Fatalf("Lane(%#x, %d) = %#x, %v, not %#x", w, i, got, is, want)
			}
		}
	}
}

// P1.1
func TestNoLaneIsNothing(t *testing.T) {
	for _, i := range noLanes() {
		for _, w := range []uint64{0, 0x0123456789ABCDEF, math.MaxUint64} {
			if got, is := Lane(w, i); got != 0 || is {
				t.Errorf("Lane(%#x, %d) = %#x, %v, though there is none", w, i, got, is)
			}
			if got := With(w, i, 0x5A); got != w {
				t.Errorf("With(%#x, %d) = %#x, though there is no such lane", w, i, got)
			}
		}
	}
}

// P1.1
func TestWithChangesThatLaneAlone(t *testing.T) {
	for _, w := range words() {
		for i := range 8 {
			for _, b := range []byte{0, 1, 0x7F, 0x80, 0xA5, 0xFF} {
				want := slowLanes(w)
				want[i] = b
				if got := slowLanes(With(w, i, b)); got != want {
					t.Fatalf("With(%#x, %d, %#x) has the lanes %x, not %x", w, i, b, got, want)
				}
			}
		}
	}
}

// P1.1
func TestEqualIsTheExample(t *testing.T) {
	if got := Equal(0x4141414141414141, 0x41); got != 0x8080808080808080 {
		t.Fatalf("Equal = %#x", got)
	}
}

// P1.1: the lane behind an equal one that differs by 1 in its lowest bit, or in its highest one, is where a borrow or a carry would be seen.
func TestEqualTellsNoNeighbour(t *testing.T) {
	for n := range 256 {
		b := byte(n)
		for i := range 7 {
			for _, bit := range []byte{0x01, 0x80, 0x81, 0xFF} {
				w := With(With(Repeat(b^0x10), i, b), i+1, b^bit)
				if got, want := Equal(w, b), slowMask(w, func(x byte) bool { return x == b }); got != want {
					t.Fatalf("Equal(%#x, %#x) = %#x, not %#x", w, b, got, want)
				}
			}
		}
	}
}

// P1.1
func TestEqualOfAllWordsAndTheirBytes(t *testing.T) {
	for _, w := range words() {
		l := slowLanes(w)
		for _, b := range []byte{l[0], l[3], l[7], l[0] + 1, l[7] - 1, l[5] ^ 0x80, 0, 0x7F, 0x80, 0xFE, 0xFF} {
			if got, want := Equal(w, b), slowMask(w, func(x byte) bool { return x == b }); got != want {
				t.Fatalf("Equal(%#x, %#x) = %#x, not %#x", w, b, got, want)
			}
		}
	}
}

// P1.1: High leaves nothing in the other bits, and a mask's other bits say nothing.
func TestHighFirstCountAndLanes(t *testing.T) {
	for _, w := range words() {
		if got, want := High(w), slowMask(w, func(b byte) bool { return b >= 0x80 }); got != want {
			t.Fatalf("High(%#x) = %#x, not %#x", w, got, want)
		}
		told := slowTold(w)
		first := -1
		if len(told) > 0 {
			first = told[0]
		}
		if got := First(w); got != first {
			t.Fatalf("First(%#x) = %d, not %d", w, got, first)
		}
		if got := Count(w); got != len(told) {
			t.Fatalf("Count(%#x) = %d, not %d", w, got, len(told))
		}
		if got := slices.Collect(Lanes(w)); !slices.Equal(got, told) {
			t.Fatalf("Lanes(%#x) = %d, not %d", w, got, told)
		}
	}
}

// P1.1
func TestMasksAtTheirEdges(t *testing.T) {
	const others = 0x7F7F7F7F7F7F7F7F
	for _, c := range []struct {
		mask  uint64
		first int
		count int
	}{
		{0, -1, 0},
		{others, -1, 0},
		{0x80, 0, 1},
		{0x80 | others, 0, 1},
		{1 << 63, 7, 1},
		{1<<63 | others, 7, 1},
		{0x8000000000000080, 0, 2},
		{0x8080808080808080, 0, 8},
		{math.MaxUint64, 0, 8},
	} {
		if first, count := First(c.mask), Count(c.mask); first != c.first || count != c.count {
			t.Errorf("of %#x: first %d, count %d, not %d and %d", c.mask, first, count, c.first, c.count)
		}
	}
}

// P1.1
func TestLanesMayBeLeftEarlyAndWalkedAgain(t *testing.T) {
	walk := Lanes(0x80FF7F0080000080)
	for range 2 {
		for i := range walk {
			if i != 0 {
				t.Fatalf("the first lane is %d", i)
			}
			break
		}
		if got := slices.Collect(walk); !slices.Equal(got, []int{0, 3, 6, 7}) {
			t.Fatalf("the lanes are %d", got)
		}
	}
	pairs := 0
	for range walk {
		for range walk {
			pairs++
		}
	}
	if pairs != 16 {
		t.Fatalf("a walk within a walk comes to %d pairs", pairs)
	}
}

// P1.1, P1.2
func TestFoldAndUnfold(t *testing.T) {
	l := [8]byte{0xEF, 0xCD, 0xAB, 0x89, 0x67, 0x45, 0x23, 0x01}
	if got := Fold(l); got != 0x0123456789ABCDEF {
		t.Fatalf("Fold(%x) = %#x", l, got)
	}
	if got := Unfold(0x0123456789ABCDEF); got != l {
		t.Fatalf("Unfold has %x, not %x", got, l)
	}
	for _, w := range words() {
		lanes := slowLanes(w)
		if got := Unfold(w); got != lanes {
			t.Fatalf("Unfold(%#x) = %x, not %x", w, got, lanes)
		}
		if got := Fold(lanes); got != w {
			t.Fatalf("Fold(%x) = %#x, not %#x", lanes, got, w)
		}
		if got := Unfold(Fold(lanes)); got != lanes {
			t.Fatalf("%x is unfolded as %x", lanes, got)
		}
	}
	for i := range 8 {
		for n := range 256 {
			var one [8]byte
			one[i] = byte(n)
			if got := Unfold(Fold(one)); got != one {
				t.Fatalf("%x is unfolded as %x", one, got)
			}
		}
	}
}

// P1.2
func TestEachLaneIsJustOneByte(t *testing.T) {
	for _, w := range words() {
		var seen uint64
		lanes := 0
		for n := range 256 {
			mask := Equal(w, byte(n))
			if seen&mask != 0 {
				t.Fatalf("a lane of %#x is two bytes: %#x", w, seen&mask)
			}
			seen |= mask
			lanes += Count(mask)
			for i := range Lanes(mask) {
				if b, is := Lane(w, i); !is || b != byte(n) {
					t.Fatalf("lane %d of %#x is %#x, told as %#x", i, w, b, n)
				}
			}
		}
		if seen != 0x8080808080808080 || lanes != 8 {
			t.Fatalf("of %#x the lanes %#x are some byte, %d in all", w, seen, lanes)
		}
	}
}
