package probe

import (
	"errors"
	"math"
	"math/big"
	"slices"
	"testing"

	"ambler/api"
)

// The tests hold each call against one that adds up h, 0, 1, 2 .. one by one as numbers without bound, and only then takes what is left of a division by the groups.

const greatest = math.MaxUint64

// sizes are all numbers of groups that a table may have.
func sizes() []int { return []int{1, 2, 4, 8, 16, 32, 64} }

// noSizes gives numbers of groups that no table has: all others from -130 to 260, and edges far off.
func noSizes() []int {
	ns := []int{512, 1024, 1 << 16, 1 << 31, 1 << 32, 1<<32 + 1, 1<<32 + 64, 1 << 62, math.MaxInt32, math.MinInt32, math.MaxInt, math.MaxInt - 1, math.MinInt, math.MinInt + 1, math.MinInt + 64}
	for n := -130; n <= 260; n++ {
		if !slices.Contains(sizes(), n) {
			ns = append(ns, n)
		}
	}
	return ns
}

// noPlaces gives place numbers that no walk over so many groups has.
func noPlaces(groups int) []int {
	return []int{-1, -2, -groups, groups, groups + 1, 2 * groups, 2*groups - 1, 64, 65, math.MaxInt32, math.MinInt32, math.MaxInt, math.MinInt}
}

// numbers gives the edges, those near each power of two from either side, all below 300 and as many below the greatest, and numbers without a pattern.
func numbers() []uint64 {
	hs := []uint64{0, 1, greatest, greatest - 1, math.MaxInt64, 1 << 63, 0x0123456789ABCDEF, 0xAAAAAAAAAAAAAAAA, 0x5555555555555555}
	for i := range 64 {
		hs = append(hs, 1<<i, 1<<i-1, 1<<i+1, ^uint64(1<<i))
	}
	for n := range uint64(300) {
		// The sum of the longest walk is 2016: below the greatest number, some places are ahead of the bound and some behind it.
		hs = append(hs, n, greatest-n, greatest-7*n)
	}
	x := uint64(88172645463325252)
	for range 500 {
		x ^= x << 13
		x ^= x >> 7
		x ^= x << 17
		hs = append(hs, x)
	}
	return hs
}

// slowOrder is the walk of h over groups.
func slowOrder(h uint64, groups int) []int {
	sum := new(big.Int).SetUint64(h)
	var places []int
	for i := range groups {
		sum.Add(sum, big.NewInt(int64(i)))
		left := new(big.Int).Mod(sum, big.NewInt(int64(groups)))
		places = append(places, int(left.Int64()))
	}
	return places
}

// P4.1
func TestTheWalkIsTheExample(t *testing.T) {
	want := []int{1, 2, 0, 3}
	if got := Order(1, 4); !slices.Equal(got, want) {
		t.Fatalf("Order(1, 4) = %d, not %d", got, want)
	}
	if got := slices.Collect(Walk(1, 4)); !slices.Equal(got, want) {
		t.Fatalf("Walk(1, 4) goes over %d, not %d", got, want)
	}
	if got, err := Home(1, 4); got != 1 || err != nil {
		t.Fatalf("Home(1, 4) = %d, %v, not 1", got, err)
	}
	for i, place := range want {
		if got, err := At(1, 4, i); got != place || err != nil {
			t.Fatalf("At(1, 4, %d) = %d, %v, not %d", i, got, err, place)
		}
	}
}

// P4.1
func TestWalksAtTheirEdges(t *testing.T) {
	for _, c := range []struct {
		h      uint64
		groups int
		want   []int
	}{
		{0, 1, []int{0}},
		{greatest, 1, []int{0}},
		{0, 2, []int{0, 1}},
		{1, 2, []int{1, 0}},
		{greatest, 2, []int{1, 0}},
		{0, 4, []int{0, 1, 3, 2}},
		{greatest, 4, []int{3, 0, 2, 1}},
		{greatest - 1, 4, []int{2, 3, 1, 0}},
		{4, 4, []int{0, 1, 3, 2}},
		{1 << 63, 4, []int{0, 1, 3, 2}},
		{0, 8, []int{0, 1, 3, 6, 2, 7, 5, 4}},
		{5, 8, []int{5, 6, 0, 3, 7, 4, 2, 1}},
		{greatest, 8, []int{7, 0, 2, 5, 1, 6, 4, 3}},
	} {
		if got := Order(c.h, c.groups); !slices.Equal(got, c.want) {
			t.Errorf("Order(%d, %d) = %d, not %d", c.h, c.groups, got, c.want)
		}
	}
}

// P4.1
func TestRightAreThePowersOfTwoUpTo64(t *testing.T) {
	for _, n := range sizes() {
		if !Right(n) {
			t.Errorf("Right(%d) is false", n)
		}
	}
	for _, n := range noSizes() {
		if Right(n) {
			t.Errorf("Right(%d) is true", n)
		}
	}
	if !Right(api.MaxGroups) || Right(2*api.MaxGroups) {
		t.Errorf("the greatest right number of groups isn't %d", api.MaxGroups)
	}
}

// P4.1: all four calls tell the same walk.
func TestEachPlaceOfEachWalk(t *testing.T) {
	for _, groups := range sizes() {
		for _, h := range numbers() {
			want := slowOrder(h, groups)
			if got := Order(h, groups); !slices.Equal(got, want) {
				t.Fatalf("Order(%#x, %d) = %d, not %d", h, groups, got, want)
			}
			if got := slices.Collect(Walk(h, groups)); !slices.Equal(got, want) {
				t.Fatalf("Walk(%#x, %d) goes over %d, not %d", h, groups, got, want)
			}
			if got, err := Home(h, groups); got != want[0] || err != nil {
				t.Fatalf("Home(%#x, %d) = %d, %v, not %d", h, groups, got, err, want[0])
			}
			for i, place := range want {
				if got, err := At(h, groups, i); got != place || err != nil {
					t.Fatalf("At(%#x, %d, %d) = %d, %v, not %d", h, groups, i, got, err, place)
				}
			}
		}
	}
}

// P4.1: modulo groups, 0 + 1 + .. up to the last place number is half the groups, and up to the one ahead of it 1 more.
func TestTheFirstAndTheLastPlacesAndThoseBesideThem(t *testing.T) {
	for _, groups := range sizes() {
		for _, h := range numbers() {
			home := int(h % uint64(groups))
			for _, c := range []struct{ i, place int }{
				{0, home},
				{1, home + 1},
				{groups - 2, home + groups/2 + 1},
				{groups - 1, home + groups/2},
			} {
				got, err := At(h, groups, c.i)
				if c.i < 0 || c.i >= groups {
					if got != 0 || !errors.Is(err, api.ErrRange) {
						t.Fatalf("At(%#x, %d, %d) = %d, %v, not ErrRange", h, groups, c.i, got, err)
					}
					continue
				}
				if want := c.place % groups; got != want || err != nil {
					t.Fatalf("At(%#x, %d, %d) = %d, %v, not %d", h, groups, c.i, got, err, want)
				}
			}
		}
	}
}

// P4.1
func TestNoPlaceIsOutOfRange(t *testing.T) {
	for _, groups := range sizes() {
		for _, i := range noPlaces(groups) {
			if 0 <= i && i < groups {
				continue // 64 and the like are place numbers of longer walks
			}
			refusesPlace(t, groups, i)
		}
	}
}

// P4.1: whatever the place number is, one that other tables have, too.
func TestNoTableHasSoManyGroups(t *testing.T) {
	for _, groups := range noSizes() {
		for _, h := range []uint64{0, 1, 1 << 63, greatest, 0x0123456789ABCDEF} {
			if got, err := Home(h, groups); got != 0 || !errors.Is(err, api.ErrRange) {
				t.Errorf("Home(%#x, %d) = %d, %v, not ErrRange", h, groups, got, err)
			}
			if got := Order(h, groups); len(got) != 0 {
				t.Errorf("Order(%#x, %d) = %d, not none", h, groups, got)
			}
			for place := range Walk(h, groups) {
				t.Fatalf("Walk(%#x, %d) comes to %d", h, groups, place)
			}
		}
		for _, i := range []int{0, 1, 2, 63, 64, -1, groups, groups - 1, groups / 2, math.MaxInt, math.MinInt} {
			refusesPlace(t, groups, i)
		}
	}
}

func refusesPlace(t *testing.T, groups, i int) {
	t.Helper()
	for _, h := range []uint64{0, 1, 1 << 63, greatest, 0x0123456789ABCDEF} {
		if got, err := At(h, groups, i); got != 0 || !errors.Is(err, api.ErrRange) {
			t.Errorf("At(%#x, %d, %d) = %d, %v, not ErrRange", h, groups, i, got, err)
		}
	}
}

// P4.1: it is asked for no place behind the one at which it is left, and begins anew each time.
func TestAWalkMayBeLeftBeforeItsEndAndGoneOverAgain(t *testing.T) {
	for _, groups := range sizes() {
		for _, h := range []uint64{0, 1, 5, greatest, 0x0123456789ABCDEF} {
			walk := Walk(h, groups)
			want := slowOrder(h, groups)
			for stop := range groups {
				var got []int
				for place := range walk {
					got = append(got, place)
					if len(got) > stop {
						break
					}
				}
				if !slices.Equal(got, want[:stop+1]) {
					t.Fatalf("Walk(%#x, %d), left at place number %d, goes over %d, not %d", h, groups, stop, got, want[:stop+1])
				}
			}
			for range 2 {
				if got := slices.Collect(walk); !slices.Equal(got, want) {
					t.Fatalf("Walk(%#x, %d), gone over again, goes over %d, not %d", h, groups, got, want)
				}
			}
		}
	}
}

// P4.1: a place is yielded no more, once the answer was that no more are wanted.
func TestALeftWalkYieldsNoMore(t *testing.T) {
	for _, groups := range sizes() {
		for stop := range groups {
			calls := 0
			Walk(3, groups)(func(int) bool {
				calls++
				return calls <= stop
			})
			if calls != stop+1 {
				t.Fatalf("a walk over %d groups, left at place number %d, yields %d places", groups, stop, calls)
			}
		}
	}
}

// P4.1
func TestAWalkWithinAWalk(t *testing.T) {
	walk := Walk(5, 8)
	want := slowOrder(5, 8)
	var outer []int
	for place := range walk {
		outer = append(outer, place)
		if got := slices.Collect(walk); !slices.Equal(got, want) {
			t.Fatalf("the inner walk goes over %d, not %d", got, want)
		}
	}
	if !slices.Equal(outer, want) {
		t.Fatalf("the outer walk goes over %d, not %d", outer, want)
	}
}

// P4.1
func TestAnOrderIsTheCallers(t *testing.T) {
	first := Order(9, 16)
	second := Order(9, 16)
	for i := range first {
		first[i] = -1
	}
	want := slowOrder(9, 16)
	if !slices.Equal(second, want) || !slices.Equal(Order(9, 16), want) {
		t.Fatalf("writing over one order changes others: %d, %d", second, Order(9, 16))
	}
}

// P4.2: told by what the package answers alone.
func TestAWalkComesToEachGroupJustOnce(t *testing.T) {
	for _, groups := range sizes() {
		for _, h := range numbers() {
			walked := make([]int, groups)
			for place := range Walk(h, groups) {
				countPlace(t, walked, place)
			}
			onceEach(t, "Walk", h, walked)
			listed := make([]int, groups)
			for _, place := range Order(h, groups) {
				countPlace(t, listed, place)
			}
			onceEach(t, "Order", h, listed)
			asked := make([]int, groups)
			for i := range groups {
				place, err := At(h, groups, i)
				if err != nil {
					t.Fatalf("At(%#x, %d, %d): %v", h, groups, i, err)
				}
				countPlace(t, asked, place)
			}
			onceEach(t, "At", h, asked)
		}
	}
}

func countPlace(t *testing.T, counts []int, place int) {
	t.Helper()
	if place < 0 || place >= len(counts) {
		t.Fatalf("place %d of %d groups", place, len(counts))
	}
	counts[place]++
}

func onceEach(t *testing.T, call string, h uint64, counts []int) {
	t.Helper()
	for place, n := range counts {
		if n != 1 {
			t.Fatalf("%s of %#x over %d groups comes to group %d %d times", call, h, len(counts), place, n)
		}
	}
}
