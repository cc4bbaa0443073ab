package split

import (
	"errors"
	"fmt"
	"math"
	"math/big"
	"slices"
	"strconv"
	"strings"
	"testing"

	"ambler/api"
)

// The tests hold each call against one that reads a hash as a text of 64 figures 0 and 1, the highest bit first, and an entry's place in the order as one number of 128 bits.

const greatest = math.MaxUint64

// figures is a hash as 64 figures, the highest bit first.
func figures(hash uint64) string { return fmt.Sprintf("%064b", hash) }

// number is what figures say; 0 of none.
func number(t *testing.T, figures string) uint64 {
	t.Helper()
	if figures == "" {
		return 0
	}
	n, err := strconv.ParseUint(figures, 2, 64)
	if err != nil {
		t.Fatal(err)
	}
	return n
}

// prefixFigures is a prefix as as many figures as its depth.
func prefixFigures(prefix, depth int) string {
	if depth == 0 {
		return ""
	}
	return fmt.Sprintf("%0*b", depth, prefix)
}

// hashes gives the edges, single bits, runs of bits from either end with those beside them, and hashes without a pattern.
func hashes() []uint64 {
	hs := []uint64{0, 1, 0x7F, 0x80, 0xFF, 0xC000000000000000, greatest - 1, greatest, math.MaxInt64, 1 << 63, 0x0123456789ABCDEF, 0xAAAAAAAAAAAAAAAA, 0x5555555555555555}
	for i := range 64 {
		run := uint64(greatest) << i
		hs = append(hs, 1<<i, ^uint64(1<<i), run, run-1, run+1, ^run)
	}
	x := uint64(88172645463325252)
	for range 500 {
		x ^= x << 13
		x ^= x >> 7
		x ^= x << 17
		hs = append(hs, x)
	}
	return hs
}

func noDepths() []int {
	return []int{-1, 17, 18, -16, -17, 32, 48, 62, 63, 64, 65, 128, -64, math.MaxInt32, math.MinInt32, math.MaxInt, math.MinInt}
}

// noPrefixes gives numbers that are no prefix of a depth.
func noPrefixes(depth int) []int {
	count := 1 << depth
	return []int{-1, -2, -count, count, count + 1, 2 * count, math.MaxInt32, math.MinInt32, math.MaxInt, math.MinInt}
}

// P3.1
func TestTopIsTheExample(t *testing.T) {
	if got, err := Top(0xC000000000000000, 2); got != 3 || err != nil {
		t.Fatalf("Top = %d, %v, not 3", got, err)
	}
}

// P3.1
func TestUpperAndLowerPart(t *testing.T) {
	for _, c := range []struct {
		hash, h1 uint64
		h2       byte
	}{
		{0, 0, 0},
		{1, 0, 1},
		{0x7F, 0, 0x7F},
		{0x80, 1, 0},
		{0xFF, 1, 0x7F},
		{1 << 63, 1 << 56, 0},
		{greatest, 1<<57 - 1, 0x7F},
	} {
		if h1, h2 := H1(c.hash), H2(c.hash); h1 != c.h1 || h2 != c.h2 {
			t.Errorf("the parts of %#x are %#x and %#x, not %#x and %#x", c.hash, h1, h2, c.h1, c.h2)
		}
	}
	for _, h := range hashes() {
		f := figures(h)
		if got, want := H1(h), number(t, f[:57]); got != want {
			t.Fatalf("H1(%#x) = %#x, not %#x", h, got, want)
		}
		if got, want := H2(h), number(t, f[57:]); uint64(got) != want {
			t.Fatalf("H2(%#x) = %#x, not %#x", h, got, want)
		}
	}
}

// P3.1
func TestTopAndBitOfEachDepth(t *testing.T) {
	for _, h := range hashes() {
		f := figures(h)
		for depth := range 17 {
			top, err := Top(h, depth)
			if want := number(t, f[:depth]); err != nil || top < 0 || uint64(top) != want {
				t.Fatalf("Top(%#x, %d) = %d, %v, not %d", h, depth, top, err, want)
			}
			bit, err := Bit(h, depth)
			if want := int(f[depth] - '0'); err != nil || bit != want {
				t.Fatalf("Bit(%#x, %d) = %d, %v, not %d", h, depth, bit, err, want)
			}
		}
	}
}

// P3.1: depth 0 and depth 16, with just the bits that they ask, and with all others.
func TestTopAndBitAtTheirEdges(t *testing.T) {
	for _, c := range []struct {
		hash            uint64
		depth, top, bit int
	}{
		{0, 0, 0, 0},
		{0, 16, 0, 0},
		{greatest, 0, 0, 1},
		{greatest, 1, 1, 1},
		{greatest, 15, 1<<15 - 1, 1},
		{greatest, 16, 1<<16 - 1, 1},
		{1 << 63, 0, 0, 1},
		{1<<63 - 1, 0, 0, 0},
		{1<<63 - 1, 1, 0, 1},
		{1 << 48, 16, 1, 0},
		{1 << 48, 15, 0, 1},
		{1 << 47, 16, 0, 1},
		{1<<47 - 1, 16, 0, 0},
		{^uint64(1 << 47), 16, 1<<16 - 1, 0},
	} {
		if got, err := Top(c.hash, c.depth); got != c.top || err != nil {
			t.Errorf("Top(%#x, %d) = %d, %v, not %d", c.hash, c.depth, got, err, c.top)
		}
		if got, err := Bit(c.hash, c.depth); got != c.bit || err != nil {
			t.Errorf("Bit(%#x, %d) = %d, %v, not %d", c.hash, c.depth, got, err, c.bit)
		}
	}
}

// P3.1
func TestNoDepthIsOutOfRange(t *testing.T) {
	for _, depth := range noDepths() {
		for _, h := range []uint64{0, 1 << 63, greatest, 0x0123456789ABCDEF} {
			if got, err := Top(h, depth); got != 0 || !errors.Is(err, api.ErrRange) {
				t.Errorf("Top(%#x, %d) = %d, %v, not ErrRange", h, depth, got, err)
			}
			if got, err := Bit(h, depth); got != 0 || !errors.Is(err, api.ErrRange) {
				t.Errorf("Bit(%#x, %d) = %d, %v, not ErrRange", h, depth, got, err)
			}
		}
		for _, prefix := range []int{0, 1, -1, 1 << 16, math.MaxInt, math.MinInt} {
			refusesPrefix(t, prefix, depth)
		}
	}
}

// P3.1
func TestNoPrefixIsOutOfRange(t *testing.T) {
	for depth := range 17 {
		for _, prefix := range noPrefixes(depth) {
			refusesPrefix(t, prefix, depth)
		}
	}
}

func refusesPrefix(t *testing.T, prefix, depth int) {
	t.Helper()
	if got, err := Low(prefix, depth); got != 0 || !errors.Is(err, api.ErrRange) {
		t.Errorf("Low(%d, %d) = %#x, %v, not ErrRange", prefix, depth, got, err)
	}
	if got, err := High(prefix, depth); got != 0 || !errors.Is(err, api.ErrRange) {
		t.Errorf("High(%d, %d) = %#x, %v, not ErrRange", prefix, depth, got, err)
	}
	for _, h := range hashes() {
		if Within(h, prefix, depth) {
			t.Fatalf("%#x is within %d of depth %d, though there is no such prefix", h, prefix, depth)
		}
	}
}

// P3.1
func TestLowAndHighAtTheirEdges(t *testing.T) {
	for _, c := range []struct {
		prefix, depth int
		low, high     uint64
	}{
		{0, 0, 0, greatest},
		{0, 1, 0, 1<<63 - 1},
		{1, 1, 1 << 63, greatest},
		{2, 2, 0x8000000000000000, 0xBFFFFFFFFFFFFFFF},
		{0, 16, 0, 0x0000FFFFFFFFFFFF},
		{1, 16, 0x0001000000000000, 0x0001FFFFFFFFFFFF},
		{1<<16 - 1, 16, 0xFFFF000000000000, greatest},
	} {
		if got, err := Low(c.prefix, c.depth); got != c.low || err != nil {
			t.Errorf("Low(%d, %d) = %#x, %v, not %#x", c.prefix, c.depth, got, err, c.low)
		}
		if got, err := High(c.prefix, c.depth); got != c.high || err != nil {
			t.Errorf("High(%d, %d) = %#x, %v, not %#x", c.prefix, c.depth, got, err, c.high)
		}
	}
}

// bounds is the low and the high hash of a prefix, by the package.
func bounds(t *testing.T, prefix, depth int) (low, high uint64) {
	t.Helper()
	low, err := Low(prefix, depth)
	if err != nil {
		t.Fatalf("Low(%d, %d): %v", prefix, depth, err)
	}
	high, err = High(prefix, depth)
	if err != nil {
		t.Fatalf("High(%d, %d): %v", prefix, depth, err)
	}
	return low, high
}

// P3.1
func TestLowAndHighOfEachPrefix(t *testing.T) {
	for depth := range 17 {
		for prefix := range 1 << depth {
			low, high := bounds(t, prefix, depth)
			f := prefixFigures(prefix, depth)
			if want := number(t, f+strings.Repeat("0", 64-depth)); low != want {
				t.Fatalf("Low(%d, %d) = %#x, not %#x", prefix, depth, low, want)
			}
			if want := number(t, f+strings.Repeat("1", 64-depth)); high != want {
				t.Fatalf("High(%d, %d) = %#x, not %#x", prefix, depth, high, want)
			}
		}
	}
}

// P3.1
func TestWithinEndsAtLowAndHigh(t *testing.T) {
	for depth := range 17 {
		for prefix := range 1 << depth {
			low, high := bounds(t, prefix, depth)
			for _, h := range []uint64{low, low + 1, low + (high-low)/2, high - 1, high} {
				if !Within(h, prefix, depth) {
					t.Fatalf("%#x isn't within %d of depth %d", h, prefix, depth)
				}
			}
			if low > 0 && Within(low-1, prefix, depth) {
				t.Fatalf("%#x, ahead of the low one, is within %d of depth %d", low-1, prefix, depth)
			}
			if high < greatest && Within(high+1, prefix, depth) {
				t.Fatalf("%#x, behind the high one, is within %d of depth %d", high+1, prefix, depth)
			}
		}
	}
}

// P3.1
func TestWithinIsToHaveThosePrefixFigures(t *testing.T) {
	for depth := range 6 {
		for prefix := range 1 << depth {
			f := prefixFigures(prefix, depth)
			for _, h := range hashes() {
				if got, want := Within(h, prefix, depth), strings.HasPrefix(figures(h), f); got != want {
					t.Fatalf("Within(%#x, %d, %d) = %v, not %v", h, prefix, depth, got, want)
				}
			}
		}
	}
}

// P3.2: they follow each other from the least hash to the greatest one without a gap.
func TestThePrefixesOfADepthPartAllHashes(t *testing.T) {
	for depth := range 17 {
		next := uint64(0)
		for prefix := range 1 << depth {
			low, high := bounds(t, prefix, depth)
			if low != next || high < low {
				t.Fatalf("%d of depth %d goes from %#x to %#x, not from %#x", prefix, depth, low, high, next)
			}
			if last := prefix == 1<<depth-1; last != (high == greatest) {
				t.Fatalf("%d of depth %d ends at %#x", prefix, depth, high)
			}
			next = high + 1
		}
	}
}

// P3.2
func TestAHashIsWithinItsTopAlone(t *testing.T) {
	for _, h := range hashes() {
		for depth := range 9 {
			top, err := Top(h, depth)
			if err != nil {
				t.Fatal(err)
			}
			for prefix := range 1 << depth {
				if got := Within(h, prefix, depth); got != (prefix == top) {
					t.Fatalf("Within(%#x, %d, %d) = %v, though its top is %d", h, prefix, depth, got, top)
				}
			}
		}
	}
}

// P3.2
func TestABitPartsAPrefixIntoTwo(t *testing.T) {
	for depth := range 16 {
		for prefix := range 1 << depth {
			low, high := bounds(t, prefix, depth)
			low0, high0 := bounds(t, 2*prefix, depth+1)
			low1, high1 := bounds(t, 2*prefix+1, depth+1)
			if low0 != low || high0+1 != low1 || high1 != high {
				t.Fatalf("%d of depth %d, %#x to %#x, is parted into %#x to %#x and %#x to %#x", prefix, depth, low, high, low0, high0, low1, high1)
			}
			for _, h := range []uint64{low0, high0, low1, high1} {
				partsByItsBit(t, h, prefix, depth)
			}
		}
	}
	for _, h := range hashes() {
		for depth := range 16 {
			top, err := Top(h, depth)
			if err != nil {
				t.Fatal(err)
			}
			partsByItsBit(t, h, top, depth)
		}
	}
}

// partsByItsBit looks whether a hash of a prefix is in that half alone which its bit tells.
func partsByItsBit(t *testing.T, h uint64, prefix, depth int) {
	t.Helper()
	bit, err := Bit(h, depth)
	if err != nil || bit != 0 && bit != 1 {
		t.Fatalf("Bit(%#x, %d) = %d, %v", h, depth, bit, err)
	}
	if !Within(h, prefix, depth) || !Within(h, 2*prefix+bit, depth+1) || Within(h, 2*prefix+1-bit, depth+1) {
		t.Fatalf("%#x of bit %d isn't just in that half of %d of depth %d", h, bit, prefix, depth)
	}
}

// edgeNumbers are hashes and keys, rising, at which a comparison by sign, by fewer bits or by a difference goes wrong.
func edgeNumbers() []uint64 {
	return []uint64{0, 1, 2, 0x7F, 0x80, math.MaxInt32, math.MaxUint32, math.MaxUint32 + 1, math.MaxInt64, 1 << 63, 1<<63 + 1, greatest - 1, greatest}
}

// rankedEntries gives entries in their order, their values falling where they rise.
func rankedEntries() []api.Entry {
	var es []api.Entry
	for _, hash := range edgeNumbers() {
		for _, key := range edgeNumbers() {
			es = append(es, api.Entry{Hash: hash, Key: key, Val: greatest - uint64(len(es))})
		}
	}
	return es
}

// P3.1, P3.2: of each two of them just one comes ahead, and none ahead of itself.
func TestLessIsByHashAndThenByKey(t *testing.T) {
	es := rankedEntries()
	for i, a := range es {
		for k, b := range es {
			if got := Less(a, b); got != (i < k) {
				t.Fatalf("Less(%+v, %+v) = %v", a, b, got)
			}
		}
	}
}

// P3.1
func TestLessOfEntriesOfOneHash(t *testing.T) {
	a := api.Entry{Hash: 7, Key: 3, Val: 9}
	b := api.Entry{Hash: 7, Key: 4, Val: 1}
	if !Less(a, b) || Less(b, a) || Less(a, a) {
		t.Fatal("of one hash the lesser key doesn't come ahead")
	}
	c := api.Entry{Hash: 6, Key: greatest}
	if !Less(c, a) || Less(a, c) {
		t.Fatal("the lesser hash doesn't come ahead of the lesser key")
	}
}

// P3.2: the values don't matter to the order.
func TestLessOfOneKeyAndHash(t *testing.T) {
	for _, hash := range edgeNumbers() {
		for _, key := range edgeNumbers() {
			a := api.Entry{Hash: hash, Key: key, Val: 1}
			b := api.Entry{Hash: hash, Key: key, Val: 2}
			if Less(a, b) || Less(b, a) {
				t.Fatalf("of %+v and %+v one comes ahead", a, b)
			}
		}
	}
}

// P3.2
func TestEntriesAreSortedInTheirOrder(t *testing.T) {
	want := rankedEntries()
	es := slices.Clone(want)
	x := uint64(88172645463325252)
	for i := range es {
		x ^= x << 13
		x ^= x >> 7
		x ^= x << 17
		k := int(x % uint64(i+1))
		es[i], es[k] = es[k], es[i]
	}
	slices.SortFunc(es, func(a, b api.Entry) int {
		switch {
		case Less(a, b):
			return -1
		case Less(b, a):
			return 1
		}
		return 0
	})
	if !slices.Equal(es, want) {
		t.Fatalf("sorted they are %+v", es)
	}
}

// place is the place of a hash and a key in the order, as a number of 128 bits.
func place(hash, key uint64) *big.Int {
	n := new(big.Int).SetUint64(hash)
	n.Lsh(n, 64)
	return n.Add(n, new(big.Int).SetUint64(key))
}

// P3.1
func TestAfterIsTheNextPlace(t *testing.T) {
	es := rankedEntries()
	for _, hash := range hashes() {
		es = append(es, api.Entry{Hash: hash, Key: ^hash}, api.Entry{Hash: hash, Key: greatest}, api.Entry{Hash: ^hash, Key: hash, Val: 5})
	}
	for _, e := range es {
		hash, key, is := After(e)
		if e.Hash == greatest && e.Key == greatest {
			if hash != 0 || key != 0 || is {
				t.Fatalf("After(%+v) = %#x, %#x, %v, though there is none", e, hash, key, is)
			}
			continue
		}
		step := new(big.Int).Sub(place(hash, key), place(e.Hash, e.Key))
		if !is || !step.IsInt64() || step.Int64() != 1 {
			t.Fatalf("After(%+v) = %#x, %#x, %v, %v places behind it", e, hash, key, is, step)
		}
		if behind := (api.Entry{Hash: hash, Key: key}); !Less(e, behind) || Less(behind, e) {
			t.Fatalf("%+v isn't behind %+v", behind, e)
		}
	}
}

// P3.1
func TestAfterAtItsEdges(t *testing.T) {
	for _, c := range []struct {
		e         api.Entry
		hash, key uint64
		is        bool
	}{
		{api.Entry{}, 0, 1, true},
		{api.Entry{Hash: 5, Key: 8, Val: 3}, 5, 9, true},
		{api.Entry{Hash: 5, Key: greatest - 1}, 5, greatest, true},
		{api.Entry{Hash: 5, Key: greatest}, 6, 0, true},
		{api.Entry{Hash: greatest - 1, Key: greatest}, greatest, 0, true},
		{api.Entry{Hash: greatest, Key: 0}, greatest, 1, true},
		{api.Entry{Hash: greatest, Key: greatest - 1}, greatest, greatest, true},
		{api.Entry{Hash: greatest, Key: greatest}, 0, 0, false},
		{api.Entry{Hash: greatest, Key: greatest, Val: 1}, 0, 0, false},
		{api.Entry{Val: greatest}, 0, 1, true},
	} {
		if hash, key, is := After(c.e); hash != c.hash || key != c.key || is != c.is {
			t.Errorf("After(%+v) = %#x, %#x, %v, not %#x, %#x, %v", c.e, hash, key, is, c.hash, c.key, c.is)
		}
	}
}

// P3.2: who goes on from what After answers meets each entry once, though all may have one hash.
func TestAWalkByAfterMeetsEachEntryOnce(t *testing.T) {
	for _, es := range [][]api.Entry{rankedEntries(), {{Hash: greatest, Key: 0}, {Hash: greatest, Key: 1}, {Hash: greatest, Key: greatest}}} {
		var met []api.Entry
		from, is := api.Entry{}, true
		for is && len(met) <= len(es) {
			i := slices.IndexFunc(es, func(e api.Entry) bool { return !Less(e, from) })
			if i < 0 {
				break
			}
			met = append(met, es[i])
			from = api.Entry{}
			from.Hash, from.Key, is = After(es[i])
		}
		if !slices.Equal(met, es) {
			t.Fatalf("a walk meets %d of %d entries: %+v", len(met), len(es), met)
		}
	}
}
