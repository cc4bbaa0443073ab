package ctrl

import (
	"errors"
	"math"
	"strings"
	"testing"

	"ambler/api"
)

// The tests hold each call against one that looks at the slots' bytes one by one, by division, without layer 1.

// slots is a word's bytes, that of slot 0 first.
func slots(w Word) [8]byte {
	var l [8]byte
	for i := range l {
		l[i] = byte(w % 256)
		w /= 256
	}
	return l
}

// wordOf is the word of eight bytes, that of slot 0 first.
func wordOf(l [8]byte) Word {
	var w Word
	for i := 7; i >= 0; i-- {
		w = w*256 + Word(l[i])
	}
	return w
}

// maskOf is the mask, its other bits 0, of the slots that are so.
func maskOf(w Word, is func(b byte) bool) uint64 {
	var marks [8]byte
	for i, b := range slots(w) {
		if is(b) {
			marks[i] = 0x80
		}
	}
	return uint64(wordOf(marks))
}

func isControlByte(b byte) bool { return b <= 0x7F || b == 0x80 || b == 0xFE }

func isRight(w Word) bool {
	for _, b := range slots(w) {
		if !isControlByte(b) {
			return false
		}
	}
	return true
}

func textOf(w Word) string {
	text := ""
	for _, b := range slots(w) {
		switch {
		case b <= 0x7F:
			text += "#"
		case b == 0x80:
			text += "."
		case b == 0xFE:
			text += "x"
		default:
			text += "?"
		}
	}
	return text
}

// edges are the bytes at which the kinds of slots meet, and one in the middle of each.
func edges() []byte {
	return []byte{0, 1, 2, 0x41, 0x7E, 0x7F, 0x80, 0x81, 0x82, 0xC0, 0xFD, 0xFE, 0xFF}
}

// words gives words in which each two of the edges stand beside each other in each pattern, and words without a pattern, right ones and others.
func words() []Word {
	ws := []Word{0, 1, math.MaxUint64, 1 << 63, 0x8080808080808080, 0xFEFEFEFEFEFEFEFE, 0x7F7F7F7F7F7F7F7F, 0x0123456789ABCDEF, 0x80FE007F80FE007F}
	for _, a := range edges() {
		for _, b := range edges() {
			for pattern := range 256 {
				var l [8]byte
				for i := range l {
					l[i] = a
					if pattern>>i&1 == 1 {
						l[i] = b
					}
				}
				ws = append(ws, wordOf(l))
			}
		}
	}
	x := uint64(88172645463325252)
	for range 2000 {
		x ^= x << 13
		x ^= x >> 7
		x ^= x << 17
		l := slots(Word(x))
		ws = append(ws, Word(x))
		for i, b := range l {
			if !isControlByte(b) {
				l[i] = []byte{0x80, 0xFE}[b%2]
			}
		}
		ws = append(ws, wordOf(l))
	}
	return ws
}

func noSlots() []int {
	return []int{-1, 8, 9, 16, -8, 63, 64, 255, 256, math.MaxInt32, math.MinInt32, math.MaxInt, math.MinInt}
}

// P2.1
func TestNewIsAllEmpty(t *testing.T) {
	w := New()
	if w != 0x8080808080808080 || !w.Right() || w.Text() != "........" {
		t.Fatalf("New is %#x, %s", uint64(w), w.Text())
	}
	if w.Empties() != 0x8080808080808080 || w.Frees() != 0x8080808080808080 || w.Deleteds() != 0 || w.Fulls() != 0 {
		t.Fatalf("New has the masks %#x, %#x, %#x, %#x", w.Empties(), w.Frees(), w.Deleteds(), w.Fulls())
	}
}

// P2.1
func TestTheConstantsAreTheControlBytes(t *testing.T) {
	if Empty != 0x80 || Deleted != 0xFE {
		t.Fatalf("Empty is %#x, Deleted %#x", Empty, Deleted)
	}
}

// P2.1
func TestTextIsTheExample(t *testing.T) {
	w, err := New().Set(2, 5)
	if err != nil || w.Text() != "..#....." {
		t.Fatalf("the example is %q, %v", w.Text(), err)
	}
}

// P2.1: each byte in each slot, among others that are right.
func TestRightAndTextOfEachByteInEachSlot(t *testing.T) {
	for _, around := range []byte{0, 5, 0x7F, 0x80, 0xFE} {
		for i := range 8 {
			for n := range 256 {
				l := [8]byte{around, around, around, around, around, around, around, around}
				l[i] = byte(n)
				w := wordOf(l)
				if got, want := w.Right(), isControlByte(byte(n)); got != want {
					t.Fatalf("Right of %#x = %v, not %v", uint64(w), got, want)
				}
				if got, want := w.Text(), textOf(w); got != want {
					t.Fatalf("Text of %#x = %q, not %q", uint64(w), got, want)
				}
			}
		}
	}
}

// P2.1
func TestRightAndTextOfAllWords(t *testing.T) {
	for _, w := range words() {
		if got, want := w.Right(), isRight(w); got != want {
			t.Fatalf("Right of %#x = %v, not %v", uint64(w), got, want)
		}
		if got, want := w.Text(), textOf(w); got != want {
			t.Fatalf("Text of %#x = %q, not %q", uint64(w), got, want)
		}
	}
}

// P2.1
func TestTextHasASignForEachKind(t *testing.T) {
	for _, c := range []struct {
		w    Word
		text string
	}{
		{0, "########"},
		{0xFEFEFEFEFEFEFEFE, "xxxxxxxx"},
		{math.MaxUint64, "????????"},
		{0xFF81FE807F00FD82, "??##.x??"},
		{0x00000000000000FE, "x#######"},
		{0x8000000000000000, "#######."},
	} {
		if got := c.w.Text(); got != c.text {
			t.Errorf("Text of %#x = %q, not %q", uint64(c.w), got, c.text)
		}
	}
}

// P2.1
func TestGetIsTheSlotsByte(t *testing.T) {
	for _, w := range words() {
		for i, want := range slots(w) {
			if got := w.Get(i); got != want {
				t.Fatalf("Get(%d) of %#x = %#x, not %#x", i, uint64(w), got, want)
			}
		}
	}
}

// P2.1
func TestGetOfNoSlotIsZero(t *testing.T) {
	for _, i := range noSlots() {
		for _, w := range []Word{New(), math.MaxUint64, 0x0123456789ABCDEF} {
			if got := w.Get(i); got != 0 {
				t.Errorf("Get(%d) of %#x = %#x, though there is no such slot", i, uint64(w), got)
			}
		}
	}
}

// P2.1: of each byte, so of those of 0x80 or more, too, which no match tells even where they stand.
func TestMatchIsJustTheFullSlotsOfThatByte(t *testing.T) {
	for _, w := range words() {
		l := slots(w)
		for _, h := range append(edges(), l[0], l[3], l[7], l[0]+1, l[7]-1, l[5]^0x80) {
			want := maskOf(w, func(b byte) bool { return b == h && h < 0x80 })
			if got := w.Match(h); got != want {
				t.Fatalf("Match(%#x) of %#x = %#x, not %#x", h, uint64(w), got, want)
			}
		}
	}
}

// P2.1
func TestMatchOfEachByteInEachSlot(t *testing.T) {
	for n := range 256 {
		h := byte(n)
		for i := range 8 {
			l := [8]byte{}
			for k := range l {
				l[k] = h ^ 1
			}
			l[i] = h
			w := wordOf(l)
			want := maskOf(w, func(b byte) bool { return b == h && h < 0x80 })
			if got := w.Match(h); got != want {
				t.Fatalf("Match(%#x) of %#x = %#x, not %#x", h, uint64(w), got, want)
			}
		}
	}
}

// P2.1: of all words, so of those that aren't right, too.
func TestTheMasksOfTheKinds(t *testing.T) {
	for _, w := range words() {
		for _, c := range []struct {
			name string
			got  uint64
			is   func(b byte) bool
		}{
			{"Empties", w.Empties(), func(b byte) bool { return b == 0x80 }},
			{"Deleteds", w.Deleteds(), func(b byte) bool { return b == 0xFE }},
			{"Frees", w.Frees(), func(b byte) bool { return b >= 0x80 }},
			{"Fulls", w.Fulls(), func(b byte) bool { return b < 0x80 }},
		} {
			if want := maskOf(w, c.is); c.got != want {
				t.Fatalf("%s of %#x = %#x, not %#x", c.name, uint64(w), c.got, want)
			}
		}
	}
}

// P2.1: a byte that is none is free, but neither empty nor deleted nor full.
func TestAByteThatIsNoneIsFreeAlone(t *testing.T) {
	for n := 0x81; n <= 0xFF; n++ {
		if n == 0xFE {
			continue
		}
		for i := range 8 {
			l := [8]byte{}
			l[i] = byte(n)
			w := wordOf(l)
			slot := maskOf(w, func(b byte) bool { return b != 0 })
			if w.Frees() != slot || w.Fulls() != 0x8080808080808080^slot || w.Empties() != 0 || w.Deleteds() != 0 {
				t.Fatalf("of %#x: free %#x, full %#x, empty %#x, deleted %#x", uint64(w), w.Frees(), w.Fulls(), w.Empties(), w.Deleteds())
			}
		}
	}
}

// P2.1, P2.2: of all words, so of those that aren't right, too, whose other slots stay as they are.
func TestSetChangesThatSlotAlone(t *testing.T) {
	for _, w := range words() {
		for i := range 8 {
			for _, b := range []byte{0, 1, 0x7F, 0x80, 0xFE} {
				want := slots(w)
				want[i] = b
				got, err := w.Set(i, b)
				if err != nil || slots(got) != want {
					t.Fatalf("Set(%d, %#x) of %#x = %#x, %v", i, b, uint64(w), uint64(got), err)
				}
				if got.Get(i) != b {
					t.Fatalf("Get(%d) behind Set(%d, %#x) = %#x", i, i, b, got.Get(i))
				}
			}
		}
	}
}

// P2.1, P2.2
func TestSetTakesEachControlByteAndNoOther(t *testing.T) {
	for _, w := range []Word{New(), 0, math.MaxUint64, 0x0123456789ABCDEF} {
		for i := range 8 {
			for n := range 256 {
				b := byte(n)
				before := w
				got, err := w.Set(i, b)
				if isControlByte(b) {
					want := slots(w)
					want[i] = b
					if err != nil || slots(got) != want {
						t.Fatalf("Set(%d, %#x) of %#x = %#x, %v", i, b, uint64(w), uint64(got), err)
					}
				} else if !errors.Is(err, api.ErrForm) || got != 0 {
					t.Fatalf("Set(%d, %#x) of %#x = %#x, %v, not ErrForm", i, b, uint64(w), uint64(got), err)
				}
				if w != before {
					t.Fatalf("Set(%d, %#x) has made %#x of %#x", i, b, uint64(w), uint64(before))
				}
			}
		}
	}
}

// P2.1: that there is no such slot is told ahead of a byte that is none.
func TestSetOfNoSlotIsOutOfRange(t *testing.T) {
	for _, i := range noSlots() {
		for _, b := range edges() {
			for _, w := range []Word{New(), math.MaxUint64, 0x0123456789ABCDEF} {
				before := w
				got, err := w.Set(i, b)
				if !errors.Is(err, api.ErrRange) || got != 0 {
					t.Errorf("Set(%d, %#x) of %#x = %#x, %v, not ErrRange", i, b, uint64(w), uint64(got), err)
				}
				if w != before {
					t.Errorf("Set(%d, %#x) has made %#x of %#x", i, b, uint64(w), uint64(before))
				}
			}
		}
	}
}

// P2.2
func TestARightWordStaysRight(t *testing.T) {
	for _, w := range words() {
		if !isRight(w) {
			continue
		}
		for i := range 8 {
			for _, b := range edges() {
				if got, err := w.Set(i, b); err == nil && !got.Right() {
					t.Fatalf("Set(%d, %#x) of %#x = %#x isn't right", i, b, uint64(w), uint64(got))
				}
			}
		}
	}
}

// P2.2
func TestEachSlotOfARightWordIsJustOneKind(t *testing.T) {
	for _, w := range words() {
		if !w.Right() {
			continue
		}
		e, d, f := w.Empties(), w.Deleteds(), w.Fulls()
		if e&d|e&f|d&f != 0 || e|d|f != 0x8080808080808080 {
			t.Fatalf("of %#x: empty %#x, deleted %#x, full %#x", uint64(w), e, d, f)
		}
		if w.Frees() != e|d {
			t.Fatalf("of %#x: free %#x, empty %#x, deleted %#x", uint64(w), w.Frees(), e, d)
		}
		var matched uint64
		for n := range 256 {
			m := w.Match(byte(n))
			if matched&m != 0 {
				t.Fatalf("a slot of %#x matches two bytes: %#x", uint64(w), matched&m)
			}
			matched |= m
		}
		if matched != f {
			t.Fatalf("of %#x: full %#x, matched %#x", uint64(w), f, matched)
		}
		if strings.Contains(w.Text(), "?") {
			t.Fatalf("Text of %#x, which is right, is %q", uint64(w), w.Text())
		}
	}
}
