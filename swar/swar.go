// Package swar is layer 1: eight bytes in one word, all looked at together. See shared/doc/01-swar.md.
package swar

import (
	"iter"
	"math/bits"

	"ambler/api"
)

const (
	laneBits = 8
	lows     = 0x0101010101010101 // the lowest bit of each lane
	highs    = 0x8080808080808080 // the highest bit of each lane
	others   = 0x7F7F7F7F7F7F7F7F // all bits but these
)

// Repeat is the word of which each lane is b.
func Repeat(b byte) uint64 { return uint64(b) * lows }

// Lane is a lane, and whether there is such a one.
func Lane(w uint64, i int) (byte, bool) {
	if !hasLane(i) {
		return 0, false
	}
	return byte(w >> (i * laneBits)), true
}

// With is the word with b in a lane; the word as it was, if there is no such lane.
func With(w uint64, i int, b byte) uint64 {
	if !hasLane(i) {
		return w
	}
	shift := i * laneBits
	return w&^(0xFF<<shift) | uint64(b)<<shift
}

// Equal is the mask of just the lanes that are b.
func Equal(w uint64, b byte) uint64 {
	differ := w ^ Repeat(b)
	// The highest bits are left out of the sum, so that none is carried into the next lane: the shorter way of taking 1 off each lane would tell lanes that only stand behind an equal one.
	nonzero := (differ&others + others) | differ
	return ^nonzero & highs
}

// High is the mask of just the lanes whose highest bit is 1.
func High(w uint64) uint64 { return w & highs }

// First is the least lane of a mask; -1, if it tells none.
func First(mask uint64) int {
	told := High(mask)
	if told == 0 {
		return -1
	}
	return bits.TrailingZeros64(told) / laneBits
}

// Count is how many lanes a mask tells.
func Count(mask uint64) int { return bits.OnesCount64(High(mask)) }

// Lanes goes over the lanes that a mask tells, rising.
func Lanes(mask uint64) iter.Seq[int] {
	return func(yield func(int) bool) {
		// A copy of its own for each walk: who walks twice has all lanes twice.
		for left := High(mask); left != 0; left &= left - 1 {
			if !yield(First(left)) {
				return
			}
		}
	}
}

// Fold is the word of eight lanes, from lane 0 on.
func Fold(l [8]byte) uint64 {
	var w uint64
	for i, b := range l {
		w |= uint64(b) << (i * laneBits)
	}
	return w
}

// Unfold is a word's lanes, from lane 0 on.
func Unfold(w uint64) [8]byte {
	var l [8]byte
	for i := range l {
		l[i] = byte(w >> (i * laneBits))
	}
	return l
}

func hasLane(i int) bool { return 0 <= i && i < api.Lanes }
