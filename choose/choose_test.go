package choose

import (
	"errors"
	"math"
	"slices"
	"testing"

	"ambler/api"
	"ambler/dual"
	"ambler/meter"
	"ambler/table"
)

// The tests hold each call against a slow one, written from the chapter's words alone: with numbers of its own for the limits, no layer below, and sums that can't wrap round. For P14.2 they ask of real tables, too.

// sizes are all numbers of groups that a table may have.
func sizes() []int { return []int{1, 2, 4, 8, 16, 32, 64} }

// noSizes gives numbers of groups that no table has: all others from -130 to 260, edges far off, and numbers that wrap round to a right one when they are taken 2, 3, 4 or 7 times.
func noSizes() []int {
	ns := []int{512, 1024, 1 << 16, 1 << 31, 1 << 32, 1<<32 + 1, 1<<32 + 64, 1 << 61, 1 << 62, math.MaxInt32, math.MinInt32, math.MaxInt, math.MaxInt - 1, math.MinInt, math.MinInt + 1}
	for _, right := range sizes() {
		ns = append(ns, math.MinInt+right, 1<<62+right, 1<<61+right, -(1<<62)+right)
	}
	for n := -130; n <= 260; n++ {
		if !slices.Contains(sizes(), n) {
			ns = append(ns, n)
		}
	}
	return ns
}

// noKinds gives kinds that no job has, None among them.
func noKinds() []int {
	ns := []int{0, math.MaxInt32, math.MinInt32, 1 << 32, 1<<32 + 1, math.MaxInt, math.MinInt, math.MinInt + 1, math.MinInt + 2, math.MinInt + 3}
	for n := 1; n <= 300; n++ {
		ns = append(ns, -n, 3+n)
	}
	return ns
}

// state is what Which and Double are asked of.
type state struct {
	live, tombs, groups, local, global int
}

func (s state) which() int   { return Which(s.live, s.tombs, s.groups, s.local, s.global) }
func (s state) double() bool { return Double(s.live, s.tombs, s.groups, s.local, s.global) }

func (s state) right() bool {
	for _, n := range []int{s.live, s.tombs, s.groups, s.local, s.global} {
		if n < 0 {
			return false
		}
	}
	return slices.Contains(sizes(), s.groups)
}

// slowNeeds wants right numbers: two that an int can be and that aren't below 0 have a sum that a uint64 can be.
func (s state) slowNeeds() bool {
	return uint64(s.live)+uint64(s.tombs) >= 4*uint64(s.groups)
}

func (s state) slowWhich() int {
	if !s.right() || !s.slowNeeds() {
		return 0
	}
	for _, kind := range []struct {
		number int
		holds  bool
	}{
		{1, uint64(s.live) <= 2*uint64(s.groups)},
		{3, s.groups >= 8 && s.local < s.global},
		{2, s.groups < 64},
	} {
		if kind.holds {
			return kind.number
		}
	}
	return 1
}

func (s state) slowDouble() bool {
	if !s.right() {
		return false
	}
	isFull := uint64(s.live) > 2*uint64(s.groups)
	return s.slowNeeds() && isFull && s.groups >= 8 && s.local == s.global && s.global < 5
}

func (s state) isSlow(t *testing.T) {
	if got, want := s.which(), s.slowWhich(); got != want {
		t.Fatalf("Which of %+v is %d, not %d", s, got, want)
	}
	if got, want := s.double(), s.slowDouble(); got != want {
		t.Fatalf("Double of %+v is %t, not %t", s, got, want)
	}
}

// is tells what is wanted in figures that stand in the test itself.
func (s state) is(t *testing.T, kind int, double bool) {
	t.Helper()
	if got := s.which(); got != kind {
		t.Errorf("Which of %+v is %d, not %d", s, got, kind)
	}
	if got := s.double(); got != double {
		t.Errorf("Double of %+v is %t, not %t", s, got, double)
	}
}

// slowGroups is the result of Groups, and of Units.
func slowGroups(kind, groups int) (each, many, units int, err error) {
	switch kind {
	case 1:
		each, many = groups, 1
	case 2:
		each, many = 2*groups, 1
	case 3:
		each, many = groups, 2
	default:
		return 0, 0, 0, api.ErrKind
	}
	if !slices.Contains(sizes(), groups) || !slices.Contains(sizes(), each) {
		return 0, 0, 0, api.ErrRange
	}
	for range many {
		units += each
	}
	return each, many, units + groups, nil
}

func groupsAre(t *testing.T, kind, groups, each, many, units int, want error) {
	t.Helper()
	gotEach, gotMany, err := Groups(kind, groups)
	if gotEach != each || gotMany != many || (err == nil) != (want == nil) || !errors.Is(err, want) {
		t.Errorf("Groups(%d, %d) = %d, %d, %v, not %d, %d, %v", kind, groups, gotEach, gotMany, err, each, many, want)
	}
	if got := Units(kind, groups); got != units {
		t.Errorf("Units(%d, %d) = %d, not %d", kind, groups, got, units)
	}
}

func groupsAreSlow(t *testing.T, kind, groups int) {
	t.Helper()
	each, many, units, err := slowGroups(kind, groups)
	groupsAre(t, kind, groups, each, many, units, err)
}

// P14.1
func TestTheExample(t *testing.T) {
	state{live: 4, tombs: 0, groups: 1}.is(t, Grow, false)
	state{live: 2, tombs: 2, groups: 1}.is(t, Sweep, false)
}

// P14.1: other layers and their texts tell the kinds by these numbers.
func TestTheNumbersOfTheKinds(t *testing.T) {
	if None != 0 || Sweep != 1 || Grow != 2 || Split != 3 {
		t.Fatalf("the kinds are %d, %d, %d, %d", None, Sweep, Grow, Split)
	}
}

// P14.1: entries and tombs together one below 4 G, 4 G, and above.
func TestFromWhenOnAJobIsNeeded(t *testing.T) {
	for _, c := range []struct {
		live, tombs, groups int
		kind                int
	}{
		{0, 0, 1, 0}, {3, 0, 1, 0}, {0, 3, 1, 0}, {1, 2, 1, 0}, {2, 1, 1, 0},
		{4, 0, 1, 2}, {0, 4, 1, 1}, {1, 3, 1, 1}, {2, 2, 1, 1}, {3, 1, 1, 2},
		{5, 0, 1, 2}, {0, 5, 1, 1}, {7, 0, 1, 2}, {0, 7, 1, 1}, {3, 4, 1, 2}, {2, 5, 1, 1},
		{15, 0, 4, 0}, {0, 15, 4, 0}, {9, 6, 4, 0}, {8, 7, 4, 0},
		{16, 0, 4, 2}, {0, 16, 4, 1}, {9, 7, 4, 2}, {8, 8, 4, 1},
		{17, 0, 4, 2}, {0, 17, 4, 1}, {9, 8, 4, 2}, {8, 9, 4, 1},
		{127, 0, 32, 0}, {128, 0, 32, 2}, {0, 127, 32, 0}, {0, 128, 32, 1},
		{255, 0, 64, 0}, {0, 255, 64, 0}, {129, 126, 64, 0}, {128, 127, 64, 0},
		{256, 0, 64, 1}, {0, 256, 64, 1}, {129, 127, 64, 1}, {128, 128, 64, 1},
		{448, 0, 64, 1}, {0, 448, 64, 1},
	} {
		// The depth is above its directory's: neither a Split nor a doubling is in the way.
		state{c.live, c.tombs, c.groups, 1, 0}.is(t, c.kind, false)
	}
}

// P14.1: one entry below 4 G together, no depths make a job of it.
func TestNoJobAtAnyDepth(t *testing.T) {
	for _, groups := range sizes() {
		for local := range 7 {
			for global := range 7 {
				state{4*groups - 1, 0, groups, local, global}.is(t, 0, false)
				state{0, 4*groups - 1, groups, local, global}.is(t, 0, false)
				state{0, 0, groups, local, global}.is(t, 0, false)
			}
		}
	}
}

// P14.1: 2 G entries and one more; G one step below SplitAt, at it, and MaxGroups; a depth below its directory's, the same, and above it.
func TestTheKindsAtTheirEdges(t *testing.T) {
	for _, c := range []struct {
		live, tombs, groups, local, global int
		kind                               int
		double                             bool
	}{
		{8, 8, 4, 0, 1, 1, false}, {9, 7, 4, 0, 1, 2, false}, {16, 0, 4, 0, 1, 2, false},
		{8, 8, 4, 1, 1, 1, false}, {9, 7, 4, 1, 1, 2, false}, {16, 0, 4, 1, 1, 2, false},
		{8, 8, 4, 2, 1, 1, false}, {9, 7, 4, 2, 1, 2, false}, {16, 0, 4, 2, 1, 2, false},

		{16, 16, 8, 0, 1, 1, false}, {17, 15, 8, 0, 1, 3, false}, {32, 0, 8, 0, 1, 3, false},
		{16, 16, 8, 1, 1, 1, false}, {17, 15, 8, 1, 1, 2, true}, {32, 0, 8, 1, 1, 2, true},
		{16, 16, 8, 2, 1, 1, false}, {17, 15, 8, 2, 1, 2, false}, {32, 0, 8, 2, 1, 2, false},

		{64, 64, 32, 0, 1, 1, false}, {65, 63, 32, 0, 1, 3, false}, {128, 0, 32, 0, 1, 3, false},
		{64, 64, 32, 1, 1, 1, false}, {65, 63, 32, 1, 1, 2, true}, {128, 0, 32, 1, 1, 2, true},
		{64, 64, 32, 2, 1, 1, false}, {65, 63, 32, 2, 1, 2, false}, {128, 0, 32, 2, 1, 2, false},

		{128, 128, 64, 0, 1, 1, false}, {129, 127, 64, 0, 1, 3, false}, {256, 0, 64, 0, 1, 3, false},
		{128, 128, 64, 1, 1, 1, false}, {129, 127, 64, 1, 1, 1, true}, {256, 0, 64, 1, 1, 1, true},
		{128, 128, 64, 2, 1, 1, false}, {129, 127, 64, 2, 1, 1, false}, {256, 0, 64, 2, 1, 1, false},
	} {
		state{c.live, c.tombs, c.groups, c.local, c.global}.is(t, c.kind, c.double)
	}
}

// P14.1: of a directory's depth of MaxDepth, one below it, and above it.
func TestTheDepthsOfADirectory(t *testing.T) {
	for _, c := range []struct {
		local, global int
		kind          int // of a table that isn't the greatest
		double        bool
	}{
		{0, 0, 2, true}, {1, 0, 2, false}, {0, 1, 3, false},
		{4, 4, 2, true}, {3, 4, 3, false}, {5, 4, 2, false},
		{5, 5, 2, false}, {4, 5, 3, false}, {6, 5, 2, false},
		{6, 6, 2, false}, {5, 6, 3, false}, {7, 6, 2, false},
		{math.MaxInt, math.MaxInt, 2, false}, {math.MaxInt - 1, math.MaxInt, 3, false}, {math.MaxInt, 4, 2, false}, {0, math.MaxInt, 3, false},
	} {
		for _, groups := range []int{8, 16, 32} {
			state{2*groups + 1, 2 * groups, groups, c.local, c.global}.is(t, c.kind, c.double)
			state{2 * groups, 2 * groups, groups, c.local, c.global}.is(t, 1, false)
			state{2*groups + 1, 2*groups - 2, groups, c.local, c.global}.is(t, 0, false)
		}
		last := 1
		if c.kind == 3 {
			last = 3
		}
		state{129, 127, 64, c.local, c.global}.is(t, last, c.double)
		state{9, 7, 4, c.local, c.global}.is(t, 2, false)
	}
}

// P14.1: each of the five numbers below 0, with others that need a job and, on its own, a doubling.
func TestNumbersBelow0(t *testing.T) {
	for _, n := range []int{-1, -2, -8, -64, math.MinInt32, math.MinInt + 64, math.MinInt + 8, math.MinInt + 1, math.MinInt} {
		for _, s := range []state{{32, 32, 8, 1, 1}, {32, 32, 8, 0, 1}, {16, 32, 8, 1, 1}, {256, 256, 64, 1, 1}, {4, 4, 1, 0, 0}, {math.MaxInt, math.MaxInt, 8, 4, 4}} {
			if s.which() == None {
				t.Fatalf("%+v needs no job", s)
			}
			state{n, s.tombs, s.groups, s.local, s.global}.is(t, 0, false)
			state{s.live, n, s.groups, s.local, s.global}.is(t, 0, false)
			state{s.live, s.tombs, n, s.local, s.global}.is(t, 0, false)
			state{s.live, s.tombs, s.groups, n, s.global}.is(t, 0, false)
			state{s.live, s.tombs, s.groups, s.local, n}.is(t, 0, false)
			state{s.live, s.tombs, s.groups, n, n}.is(t, 0, false)
			state{n, n, s.groups, s.local, s.global}.is(t, 0, false)
			state{n, n, n, n, n}.is(t, 0, false)
		}
	}
}

// P14.1: whatever the other numbers are.
func TestNoTableHasSoManyGroups(t *testing.T) {
	for _, groups := range noSizes() {
		for _, n := range []int{0, 1, 4, 32, 1000, math.MaxInt} {
			for _, depth := range []int{0, 1, 4, 5, 6} {
				state{n, 0, groups, depth, depth}.is(t, 0, false)
				state{0, n, groups, depth, depth}.is(t, 0, false)
				state{n, n, groups, depth, depth}.is(t, 0, false)
				state{n, n, groups, depth, depth + 1}.is(t, 0, false)
			}
		}
	}
}

// P14.1: entries and tombs as great as an int can be, alone and both together.
func TestAsGreatAsAnIntCanBe(t *testing.T) {
	for _, great := range []int{math.MaxInt, math.MaxInt - 1, math.MaxInt - 3, math.MaxInt - 32, math.MaxInt - 256, 1 << 62, 1<<62 + 1, 1 << 32, math.MaxInt32} {
		for _, c := range []struct {
			groups, local, global int
			kind                  int
			double                bool
		}{
			{1, 0, 0, 2, false}, {1, 0, 1, 2, false}, {4, 0, 1, 2, false}, {4, 4, 4, 2, false},
			{8, 0, 1, 3, false}, {8, 4, 4, 2, true}, {8, 5, 5, 2, false}, {8, 2, 1, 2, false},
			{64, 0, 1, 3, false}, {64, 4, 4, 1, true}, {64, 5, 5, 1, false}, {64, 2, 1, 1, false},
		} {
			for _, other := range []int{0, 1, 2, 3, 4, 31, 32, 33, 255, 256, 257, math.MaxInt - 1, math.MaxInt} {
				state{great, other, c.groups, c.local, c.global}.is(t, c.kind, c.double)
				if other <= 2*c.groups {
					state{other, great, c.groups, c.local, c.global}.is(t, 1, false)
				} else {
					state{other, great, c.groups, c.local, c.global}.is(t, c.kind, c.double)
				}
			}
		}
	}
}

// P14.1: all entries and tombs that a table of so many groups may have, and some beyond, at all depths up to some that no directory has.
func TestAllSmallNumbersOfRightTables(t *testing.T) {
	for _, groups := range sizes() {
		for live := -1; live <= 7*groups+1; live++ {
			for tombs := -1; tombs <= 7*groups+1; tombs++ {
				for local := -1; local <= 6; local++ {
					for global := -1; global <= 6; global++ {
						state{live, tombs, groups, local, global}.isSlow(t)
					}
				}
			}
		}
	}
}

// P14.1: right and wrong numbers of groups alike.
func TestAllSmallNumbers(t *testing.T) {
	for groups := -3; groups <= 20; groups++ {
		for live := -2; live <= 36; live++ {
			for tombs := -2; tombs <= 36; tombs++ {
				for local := -2; local <= 8; local++ {
					for global := -2; global <= 8; global++ {
						state{live, tombs, groups, local, global}.isSlow(t)
					}
				}
			}
		}
	}
}

// P14.1: edges of each of the five numbers, all with all.
func TestAllEdges(t *testing.T) {
	some := []int{math.MinInt, math.MinInt + 1, -1, 0, 1, 2, 3, 4, 15, 16, 17, 31, 32, 33, 127, 128, 129, 255, 256, 257, 448, 1 << 32, 1 << 62, math.MaxInt - 256, math.MaxInt - 4, math.MaxInt - 1, math.MaxInt}
	depths := []int{math.MinInt, -1, 0, 1, 4, 5, 6, 1 << 32, math.MaxInt}
	for _, groups := range append(sizes(), math.MinInt, math.MinInt+8, -8, -1, 0, 3, 7, 9, 63, 65, 128, 1<<32+8, 1<<61+8, 1<<62+8, math.MaxInt) {
		for _, live := range some {
			for _, tombs := range some {
				for _, local := range depths {
					for _, global := range depths {
						state{live, tombs, groups, local, global}.isSlow(t)
					}
				}
			}
		}
	}
}

// P14.1
func TestGroupsOfEachKind(t *testing.T) {
	for _, c := range []struct{ kind, groups, each, many, units int }{
		{1, 1, 1, 1, 2}, {1, 2, 2, 1, 4}, {1, 4, 4, 1, 8}, {1, 8, 8, 1, 16}, {1, 16, 16, 1, 32}, {1, 32, 32, 1, 64}, {1, 64, 64, 1, 128},
		{2, 1, 2, 1, 3}, {2, 2, 4, 1, 6}, {2, 4, 8, 1, 12}, {2, 8, 16, 1, 24}, {2, 16, 32, 1, 48}, {2, 32, 64, 1, 96},
		{3, 1, 1, 2, 3}, {3, 2, 2, 2, 6}, {3, 4, 4, 2, 12}, {3, 8, 8, 2, 24}, {3, 16, 16, 2, 48}, {3, 32, 32, 2, 96}, {3, 64, 64, 2, 192},
	} {
		groupsAre(t, c.kind, c.groups, c.each, c.many, c.units, nil)
	}
}

// P14.1: the kind is told ahead of the number of groups.
func TestGroupsOfNoKind(t *testing.T) {
	for _, kind := range noKinds() {
		for _, groups := range append(sizes(), noSizes()...) {
			groupsAre(t, kind, groups, 0, 0, 0, api.ErrKind)
		}
	}
}

// P14.1
func TestGroupsOutOfRange(t *testing.T) {
	groupsAre(t, Grow, 64, 0, 0, 0, api.ErrRange)
	groupsAre(t, Grow, api.MaxGroups, 0, 0, 0, api.ErrRange)
	for _, kind := range []int{1, 2, 3} {
		for _, groups := range noSizes() {
			groupsAre(t, kind, groups, 0, 0, 0, api.ErrRange)
		}
	}
}

// P14.1
func TestGroupsOfAllSmallNumbers(t *testing.T) {
	for kind := -10; kind <= 300; kind++ {
		for groups := -300; groups <= 300; groups++ {
			groupsAreSlow(t, kind, groups)
		}
	}
}

// P14.1: the steps are those that a job of layer 13 has at first, and does.
func TestUnitsAreTheStepsOfADual(t *testing.T) {
	for kind := Sweep; kind <= Split; kind++ {
		for _, groups := range sizes() {
			each, many, err := Groups(kind, groups)
			if err != nil {
				continue
			}
			depth := -1
			if many == 2 {
				depth = 0
			}
			d, err := dual.New(newTable(t, groups), each, depth)
			if err != nil {
				t.Fatalf("a dual of kind %d and %d groups: %v", kind, groups, err)
			}
			left, m := d.Left(), &meter.Meter{}
			for d.Step(m) {
			}
			taken, err := d.Take()
			if units := Units(kind, groups); left != units || m.All().Units != units || err != nil || len(taken) != many {
				t.Errorf("kind %d of %d groups: %d steps are left, %d are done, for %d tables, not %d, for %d", kind, groups, left, m.All().Units, len(taken), units, many)
			}
			for _, x := range taken {
				if x.Groups() != each {
					t.Errorf("kind %d of %d groups: a new table has %d, not %d", kind, groups, x.Groups(), each)
				}
			}
		}
	}
}

// P14.1: of what Which answers a job can always be begun.
func TestWhatIsNeededCanBeBegun(t *testing.T) {
	for _, groups := range sizes() {
		for live := range 7*groups + 1 {
			for tombs := range 7*groups + 1 - live {
				for _, depths := range [][2]int{{0, 0}, {0, 1}, {1, 0}} {
					kind := Which(live, tombs, groups, depths[0], depths[1])
					if _, _, err := Groups(kind, groups); kind != None && err != nil {
						t.Fatalf("Groups of %d, the kind of %d, %d in %d groups: %v", kind, live, tombs, groups, err)
					}
				}
			}
		}
	}
}

// P14.1
func TestWords(t *testing.T) {
	for kind, want := range []string{"none", "sweep", "grow", "split"} {
		if got := Word(kind); got != want {
			t.Errorf("Word(%d) = %q, not %q", kind, got, want)
		}
	}
	for _, kind := range noKinds() {
		if kind != None && Word(kind) != "" {
			t.Errorf("Word(%d) = %q, not the empty text", kind, Word(kind))
		}
	}
}

// slowLeft is how many entries a table has still room for.
func slowLeft(live, tombs, groups int) int { return 7*groups - live - tombs }

// P14.2: whatever part of it tombs are, at all depths.
func TestATableWithoutRoomNeedsAJob(t *testing.T) {
	for _, groups := range sizes() {
		for live := range 7*groups + 1 {
			tombs := 7*groups - live
			for local := range 8 {
				for global := range 8 {
					if Which(live, tombs, groups, local, global) == None {
						t.Fatalf("%d entries and %d tombs in %d groups, at depths %d and %d, need no job", live, tombs, groups, local, global)
					}
				}
			}
		}
	}
}

// P14.2: it has just so much room, where one entry more would need a job.
func TestATableThatNeedsNoJobHasRoom(t *testing.T) {
	for _, groups := range sizes() {
		least := 7 * groups
		for live := range 7*groups + 1 {
			for tombs := range 7*groups + 1 - live {
				for local := range 7 {
					for global := range 7 {
						if Which(live, tombs, groups, local, global) == None {
							least = min(least, slowLeft(live, tombs, groups))
						}
					}
				}
			}
		}
		if least != 3*groups+1 {
			t.Errorf("a table of %d groups that needs no job may have room for %d alone, not %d", groups, least, 3*groups+1)
		}
	}
}

// P14.2: of layer 9's tables.
func TestANewTableOfGrowHasTwiceTheRoom(t *testing.T) {
	for _, groups := range sizes() {
		if groups == api.MaxGroups {
			continue
		}
		each, many, err := Groups(Grow, groups)
		if many != 1 || err != nil {
			t.Fatalf("Groups(Grow, %d) = %d, %d, %v", groups, each, many, err)
		}
		if old, room := newTable(t, groups).Left(), newTable(t, each).Left(); room < 2*old {
			t.Errorf("a new table of Grow has room for %d, the old one of %d groups for %d", room, groups, old)
		}
	}
}

// P14.2: of layer 9's tables, filled key by key, with plain and with hostile hashes: each needs a job when it is full, and while it needs none, it has room for what is promised.
func TestTablesThatAreFilled(t *testing.T) {
	for _, groups := range sizes() {
		for _, hash := range []func(key uint64) uint64{
			func(key uint64) uint64 { return key * 0x9E3779B97F4A7C15 },
			func(uint64) uint64 { return 0 },
		} {
			x := newTable(t, groups)
			for key := uint64(0); ; key++ {
				holdsRoom(t, x)
				if _, err := x.Put(meter.Lens{}, api.Entry{Key: key, Hash: hash(key)}); err != nil {
					break
				}
			}
			if x.Left() != 0 || need(x) == None {
				t.Fatalf("a full table of %d groups has room for %d, and needs a job of kind %d", groups, x.Left(), need(x))
			}
		}
	}
}

// P14.2: likewise with tombs, which keys leave that go from full groups.
func TestTablesOfTombs(t *testing.T) {
	for _, groups := range sizes() {
		if groups == 1 {
			continue // with 7 entries at most its group stays open, and has no tombs
		}
		x := newTable(t, groups)
		for key := uint64(0); x.Left() > 0; key++ {
			putNew(t, x, key)
			holdsRoom(t, x)
			if key%2 == 0 {
				continue
			}
			// Of each two keys one goes again, the one that was put first of those that are there: its slot is deleted, once its group is full.
			x.Delete(meter.Lens{}, key/2, 0)
			holdsRoom(t, x)
		}
		if x.Tombs() == 0 || need(x) == None {
			t.Fatalf("a table of %d groups with %d entries and %d tombs has no room, and needs a job of kind %d", groups, x.Len(), x.Tombs(), need(x))
		}
	}
}

// P14.2: so many keys can indeed be put, and not one more.
func TestTheRoomOfATableThatNeedsNoJob(t *testing.T) {
	for _, groups := range sizes() {
		x := newTable(t, groups)
		for key := range uint64(4*groups - 1) {
			putNew(t, x, key)
		}
		if need(x) != None {
			t.Fatalf("%d entries in %d groups need a job of kind %d", x.Len(), groups, need(x))
		}
		for key := range uint64(3*groups + 1) {
			putNew(t, x, 1000+key)
		}
		if _, err := x.Put(meter.Lens{}, api.Entry{Key: 2000}); !errors.Is(err, api.ErrFull) || need(x) == None {
			t.Fatalf("behind %d entries in %d groups one more is %v, and they need a job of kind %d", x.Len(), groups, err, need(x))
		}
	}
}

func need(x *table.Table) int { return Which(x.Len(), x.Tombs(), x.Groups(), 0, 0) }

func holdsRoom(t *testing.T, x *table.Table) {
	t.Helper()
	if need(x) == None && x.Left() < 3*x.Groups()+1 {
		t.Fatalf("%d groups that need no job have room for %d alone", x.Groups(), x.Left())
	}
	if x.Left() == 0 && need(x) == None {
		t.Fatalf("%d groups have no room, and need no job", x.Groups())
	}
}

func putNew(t *testing.T, x *table.Table, key uint64) {
	t.Helper()
	if is, err := x.Put(meter.Lens{}, api.Entry{Key: key}); !is || err != nil {
		t.Fatalf("put of key %d, with room for %d: %t, %v", key, x.Left(), is, err)
	}
}

func newTable(t *testing.T, groups int) *table.Table {
	t.Helper()
	x, err := table.New(groups)
	if err != nil {
		t.Fatalf("a table of %d groups: %v", groups, err)
	}
	return x
}
