package meter

import (
	"math"
	"math/big"
	"strconv"
	"testing"

	"ambler/api"
	"ambler/trap"
)

// The tests hold each call against a slow meter, which keeps what was counted as numbers without bound, and only when it is asked takes MaxCount of what is more.

const most = api.MaxCount

// slow is a meter of numbers without bound: probes, visits, units.
type slow struct {
	all, last [3]big.Int
	limit     *big.Int // nil: there is none
}

func number(n int) *big.Int { return big.NewInt(int64(n)) }

func (s *slow) count(thing, n int) {
	s.all[thing].Add(&s.all[thing], number(n))
	s.last[thing].Add(&s.last[thing], number(n))
}

// unit tells whether the limit lets n units by.
func (s *slow) unit(n int) bool {
	if n <= 0 {
		return true
	}
	together := new(big.Int).Add(number(told(&s.last[2])), number(n))
	if s.limit != nil && together.Cmp(s.limit) > 0 {
		return false
	}
	s.count(2, n)
	return true
}

func (s *slow) setLimit(n int) {
	s.limit = nil
	if n >= 0 {
		s.limit = number(n)
	}
}

func (s *slow) reset() { s.last = [3]big.Int{} }

// told is a count, 0 and MaxCount at the ends.
func told(n *big.Int) int {
	if n.Cmp(number(most)) > 0 {
		return most
	}
	if n.Sign() < 0 {
		return 0
	}
	return int(n.Int64())
}

func toldAll(n *[3]big.Int) Counts {
	return Counts{Probes: told(&n[0]), Visits: told(&n[1]), Units: told(&n[2])}
}

// both is a meter and a slow one of which each is given what the other one is.
type both struct {
	t    *testing.T
	what string
	m    *Meter
	s    *slow
}

func newBoth(t *testing.T, what string) *both { return &both{t, what, &Meter{}, &slow{}} }

func (b *both) probe() { b.m.Probing().Visit(); b.s.count(0, 1) }
func (b *both) visit() { b.m.Working().Visit(); b.s.count(1, 1) }
func (b *both) reset() { b.m.Reset(); b.s.reset() }

func (b *both) limit(n int) { b.m.Limit(n); b.s.setLimit(n) }

func (b *both) unit(n int) {
	b.t.Helper()
	want := error(nil)
	if !b.s.unit(n) {
		want = api.ErrLimit
	}
	same(b.t, b.what+", units "+strconv.Itoa(n), unit(b.m, n), want)
}

func (b *both) hold() {
	b.t.Helper()
	counted(b.t, b.what+", last", b.m.Last(), toldAll(&b.s.last))
	counted(b.t, b.what+", all", b.m.All(), toldAll(&b.s.all))
}

// unit is the error that Unit raises.
func unit(m *Meter, n int) error { return trap.Catch(func() { m.Unit(n) }) }

// same asks by ==, not by errors.Is: the promise is that error, not one around it.
func same(t *testing.T, what string, got, want error) {
	t.Helper()
	if got == nil || want == nil {
		if got != nil || want != nil {
			t.Fatalf("%s: %v, not %v", what, got, want)
		}
		return
	}
	if got != want {
		t.Fatalf("%s: %v, not %v", what, got, want)
	}
}

func counted(t *testing.T, what string, got, want Counts) {
	t.Helper()
	if got != want {
		t.Fatalf("%s: %+v, not %+v", what, got, want)
	}
}

// P6.1
func TestTheExample(t *testing.T) {
	m := &Meter{}
	m.Probing().Visit()
	m.Unit(3)
	counted(t, "last", m.Last(), Counts{Probes: 1, Units: 3})
	counted(t, "all", m.All(), Counts{Probes: 1, Units: 3})
}

// P6.1
func TestTheZeroMeter(t *testing.T) {
	m := &Meter{}
	counted(t, "last", m.Last(), Counts{})
	counted(t, "all", m.All(), Counts{})
	m.Reset()
	counted(t, "last, reset", m.Last(), Counts{})
	counted(t, "all, reset", m.All(), Counts{})
	for _, n := range []int{1, 2, 1000, most, most + 1, math.MaxInt} {
		same(t, "a limit that wasn't set, "+strconv.Itoa(n), unit(&Meter{}, n), nil)
		var onStack Meter
		onStack.Unit(n)
		counted(t, "units", onStack.All(), Counts{Units: min(n, most)})
	}
}

// P6.1
func TestALensThatCountsForNoMeterCountsNothing(t *testing.T) {
	other := &Meter{}
	other.Limit(0)
	var none *Meter
	for _, l := range []Lens{{}, none.Probing(), none.Working()} {
		for range 3 {
			l.Visit()
		}
	}
	counted(t, "another meter, last", other.Last(), Counts{})
	counted(t, "another meter, all", other.All(), Counts{})
	var unset Lens
	unset.Visit()
}

// P6.1: each lens counts its own thing, alone, for its own meter.
func TestALensCountsOneMoreOfItsThing(t *testing.T) {
	m, other := &Meter{}, &Meter{}
	probing, working := m.Probing(), m.Working()
	for i := 1; i <= 100; i++ {
		probing.Visit()
		counted(t, "probed", m.Last(), Counts{Probes: i, Visits: 2 * (i - 1)})
		working.Visit()
		m.Working().Visit()
		counted(t, "worked", m.Last(), Counts{Probes: i, Visits: 2 * i})
		counted(t, "all", m.All(), Counts{Probes: i, Visits: 2 * i})
	}
	counted(t, "another meter", other.All(), Counts{})
	other.Working().Visit()
	counted(t, "a meter, the other one counting", m.All(), Counts{Probes: 100, Visits: 200})
	counted(t, "the other one", other.All(), Counts{Visits: 1})
}

// P6.1: to make a lens counts nothing, and one lens, its copies, and another one that was made alike are the same.
func TestLensesOfOneMeter(t *testing.T) {
	m := &Meter{}
	early, work := m.Probing(), m.Working()
	copied := early
	counted(t, "made", m.All(), Counts{})
	for _, l := range []Lens{early, copied, m.Probing(), early, work, m.Working()} {
		l.Visit()
	}
	counted(t, "counted", m.All(), Counts{Probes: 4, Visits: 2})
	m.Unit(5)
	m.Reset()
	m.Limit(0)
	early.Visit()
	work.Visit()
	copied.Visit()
	counted(t, "lenses of before the Reset, last", m.Last(), Counts{Probes: 2, Visits: 1})
	counted(t, "lenses of before the Reset, all", m.All(), Counts{Probes: 6, Visits: 3, Units: 5})
}

// P6.1
func TestUnitsBelowOneAreNothing(t *testing.T) {
	for _, n := range []int{0, -1, -2, -most, -most - 1, math.MinInt32, math.MinInt + 1, math.MinInt} {
		for _, limit := range []int{-1, 0, 1, 4, 5, most, math.MaxInt} {
			m := &Meter{}
			m.Unit(n)
			counted(t, "of none, "+strconv.Itoa(n), m.All(), Counts{})
			m.Unit(5)
			m.Limit(limit) // also one that the units that are there are more than
			same(t, "of 5, "+strconv.Itoa(n), unit(m, n), nil)
			counted(t, "of 5, "+strconv.Itoa(n)+", last", m.Last(), Counts{Units: 5})
			counted(t, "of 5, "+strconv.Itoa(n)+", all", m.All(), Counts{Units: 5})
		}
	}
}

// P6.1
func TestUnitsAreCounted(t *testing.T) {
	b := newBoth(t, "units")
	for n := range 200 {
		b.unit(n)
		b.hold()
	}
	for _, n := range []int{1 << 20, 1 << 31, 1 << 39, math.MaxInt, 1} {
		b := newBoth(t, "great units")
		b.unit(3)
		b.unit(n)
		b.hold()
		b.unit(n)
		b.hold()
		b.reset()
		b.unit(n)
		b.hold()
	}
}

// P6.1: of a limit the last unit that it lets by, and the first that it doesn't.
func TestTheLimitOfUnits(t *testing.T) {
	for _, c := range []struct {
		limit, had, n int
		by            bool
	}{
		{0, 0, 1, false}, {0, 0, math.MaxInt, false}, {0, 0, most, false}, {0, 0, 0, true},
		{1, 0, 1, true}, {1, 0, 2, false}, {1, 1, 1, false},
		{4, 3, 1, true}, {4, 3, 2, false}, {4, 4, 1, false}, {4, 0, 4, true}, {4, 0, 5, false}, {4, 0, math.MaxInt, false}, {4, 4, math.MaxInt, false},
		{2, 5, 1, false}, {0, 5, 1, false}, {4, 5, 1, false}, {5, 5, 1, false}, {6, 5, 1, true}, {0, most, 1, false}, {0, most, math.MaxInt, false},
		{most - 1, most - 2, 1, true}, {most - 1, most - 2, 2, false}, {most - 1, most, 1, false},
		{most, most - 1, 1, true}, {most, most - 1, 2, false}, {most, most, 1, false}, {most, 0, most, true}, {most, 0, most + 1, false},
		// A count stays at MaxCount, but what is held against the limit doesn't.
		{most + 5, most, 5, true}, {most + 5, most, 6, false}, {most + 5, most + 3, 5, true}, {most + 5, most + 3, 6, false}, {most + 5, 0, most + 5, true}, {most + 5, 0, most + 6, false}, {2 * most, most, most, true}, {2 * most, most, most + 1, false},
		{math.MaxInt, 0, math.MaxInt, true}, {math.MaxInt, 1, math.MaxInt, false}, {math.MaxInt, 1, math.MaxInt - 1, true}, {math.MaxInt, most, math.MaxInt, false}, {math.MaxInt, most, math.MaxInt - most, true}, {math.MaxInt, most, math.MaxInt - most + 1, false},
		{math.MaxInt - 1, 0, math.MaxInt, false}, {math.MaxInt - 1, 0, math.MaxInt - 1, true},
		{-1, 0, math.MaxInt, true}, {-1, most, math.MaxInt, true}, {-2, 7, 1, true}, {math.MinInt, 0, 1, true}, {math.MinInt, most, math.MaxInt, true}, {-most, 5, 5, true},
	} {
		what := "limit " + strconv.Itoa(c.limit) + ", had " + strconv.Itoa(c.had) + ", units " + strconv.Itoa(c.n)
		m := &Meter{}
		m.Probing().Visit()
		m.Unit(c.had)
		m.Limit(c.limit)
		m.Working().Visit()
		before := Counts{Probes: 1, Visits: 1, Units: min(c.had, most)}
		counted(t, what+", before", m.All(), before)
		want, after := api.ErrLimit, before
		if c.by {
			want = nil
			after.Units = told(new(big.Int).Add(number(c.had), number(c.n)))
		}
		same(t, what, unit(m, c.n), want)
		counted(t, what+", last", m.Last(), after)
		counted(t, what+", all", m.All(), after)
	}
}

// P6.1: behind a limit that was passed, what is still below it is let by.
func TestALimitThatWasPassedStays(t *testing.T) {
	b := newBoth(t, "passed")
	b.limit(10)
	for _, n := range []int{7, 4, 5, math.MaxInt, 2, 2, 1, 1, 0, -1, 1} {
		b.unit(n)
		b.hold()
	}
	counted(t, "at the limit", b.m.Last(), Counts{Units: 10})
}

// P6.1: it is raised, so that a Catch answers just that error, and the innermost one alone does.
func TestALimitIsRaisedByLayerFive(t *testing.T) {
	m := &Meter{}
	m.Limit(2)
	var inner error
	behind := false
	outer := trap.Catch(func() {
		inner = trap.Catch(func() { m.Unit(1); m.Unit(2); behind = true })
	})
	same(t, "the inner Catch", inner, api.ErrLimit)
	same(t, "the outer Catch", outer, nil)
	if behind {
		t.Error("what stands behind a limit that is passed is done")
	}
	counted(t, "what was counted ahead of it", m.Last(), Counts{Units: 1})
	v, err := trap.Try(func() (int, error) { m.Unit(2); return 7, nil })
	if v != 0 {
		t.Errorf("Try answers %d", v)
	}
	same(t, "Try", err, api.ErrLimit)
	func() {
		defer func() {
			if recover() == nil {
				t.Error("without a Catch there is no panic")
			}
		}()
		m.Unit(2)
	}()
	counted(t, "nothing more is counted", m.All(), Counts{Units: 1})
}

// P6.1
func TestALimitBoundsNoProbesAndVisits(t *testing.T) {
	b := newBoth(t, "limit 0")
	b.limit(0)
	for range 5 {
		b.probe()
		b.visit()
		b.unit(1)
		b.hold()
	}
	b = newBoth(t, "limit 3, five probes and visits")
	for range 5 {
		b.probe()
		b.visit()
	}
	b.limit(3)
	b.unit(3)
	b.hold()
	b.unit(1)
	b.hold()
}

// P6.1: the limit that was set last is the limit; each limit is set behind each other one.
func TestALimitBehindALimit(t *testing.T) {
	limits := []int{math.MinInt, -1, 0, 1, 2, 3, 7, most, math.MaxInt}
	for _, first := range limits {
		for _, second := range limits {
			b := newBoth(t, strconv.Itoa(first)+" then "+strconv.Itoa(second))
			b.limit(first)
			b.unit(2)
			b.limit(second)
			b.hold()
			for range 4 {
				b.unit(1)
				b.hold()
			}
		}
	}
}

// P6.1: a limit is of the units since Reset, and a Reset lets it be.
func TestALimitAndAReset(t *testing.T) {
	m := &Meter{}
	m.Limit(3)
	for i := 1; i <= 50; i++ {
		same(t, "up to the limit", unit(m, 3), nil)
		same(t, "more", unit(m, 1), api.ErrLimit)
		counted(t, "last", m.Last(), Counts{Units: 3})
		counted(t, "all", m.All(), Counts{Units: 3 * i})
		m.Reset()
		same(t, "more at once", unit(m, 4), api.ErrLimit)
		counted(t, "last, reset", m.Last(), Counts{})
	}
	m.Limit(0)
	m.Reset()
	same(t, "a limit of 0, reset", unit(m, 1), api.ErrLimit)
	m.Limit(-1)
	m.Reset()
	same(t, "no limit, reset", unit(m, most), nil)
	m.Limit(5)
	same(t, "a limit below what is there", unit(m, 1), api.ErrLimit)
	m.Reset()
	same(t, "that limit, reset", unit(m, 5), nil)
	same(t, "one more", unit(m, 1), api.ErrLimit)
}

// P6.1
func TestResetLetsTheLastCountsBeNothing(t *testing.T) {
	b := newBoth(t, "reset")
	for i := range 20 {
		for range i {
			b.probe()
		}
		for range 3 * i {
			b.visit()
		}
		b.unit(7 * i)
		b.hold()
		b.reset()
		counted(t, "last, reset", b.m.Last(), Counts{})
		b.hold()
		b.reset()
		b.hold()
	}
}

// P6.1, P6.2: units come to MaxCount and stay there, the last ones and all of them, each by itself.
func TestUnitsStayAtMaxCount(t *testing.T) {
	steps := []int{most - 2, most - 1, most, most + 1, 2 * most, math.MaxInt - most, math.MaxInt - 1, math.MaxInt, 1, 2, 3}
	for _, first := range steps {
		for _, second := range steps {
			b := newBoth(t, strconv.Itoa(first)+" and "+strconv.Itoa(second))
			b.unit(first)
			b.hold()
			b.unit(second)
			b.hold()
			b.unit(1)
			b.hold()
			b.reset()
			b.hold()
			b.unit(second)
			b.hold()
			b.unit(1)
			b.hold()
		}
	}
	m := &Meter{}
	m.Unit(most - 1)
	counted(t, "one below", m.All(), Counts{Units: most - 1})
	m.Unit(1)
	counted(t, "there", m.All(), Counts{Units: most})
	m.Unit(1)
	counted(t, "stays", m.All(), Counts{Units: most})
	m.Reset()
	m.Unit(1)
	counted(t, "stays, reset", m.All(), Counts{Units: most})
	counted(t, "the last ones go on", m.Last(), Counts{Units: 1})
}

// P6.1: probes and visits come there, too; their counts are set near it, since nobody can wait for so many.
func TestProbesAndVisitsStayAtMaxCount(t *testing.T) {
	m := &Meter{probes: count{most - 2, most - 3}, visits: count{most - 3, most - 4}}
	probing, working := m.Probing(), m.Working()
	for i := range 7 {
		counted(t, "all", m.All(), Counts{Probes: min(most-2+i, most), Visits: min(most-3+i, most)})
		counted(t, "last", m.Last(), Counts{Probes: min(most-3+i, most), Visits: min(most-4+i, most)})
		probing.Visit()
		working.Visit()
	}
	m.Reset()
	probing.Visit()
	working.Visit()
	counted(t, "all, reset", m.All(), Counts{Probes: most, Visits: most})
	counted(t, "last, reset", m.Last(), Counts{Probes: 1, Visits: 1})
}

// P6.1: what is answered is the caller's.
func TestWhatIsAnsweredIsNotTheMeters(t *testing.T) {
	m := &Meter{}
	m.Probing().Visit()
	m.Unit(2)
	last, all := m.Last(), m.All()
	last.Probes, last.Visits, last.Units = 50, 51, 52
	all.Probes, all.Visits, all.Units = 60, 61, 62
	counted(t, "last, written over", m.Last(), Counts{Probes: 1, Units: 2})
	counted(t, "all, written over", m.All(), Counts{Probes: 1, Units: 2})
	kept := m.All()
	m.Unit(1)
	m.Working().Visit()
	m.Reset()
	counted(t, "an answer that was kept", kept, Counts{Probes: 1, Units: 2})
}

// addends gives the edges of what Plus may be given.
func addends() []int {
	return []int{
		math.MinInt, math.MinInt + 1, math.MinInt32, -most - 1, -most, -most + 1, -2, -1, 0, 1, 2, 1000,
		most/2 - 1, most / 2, most/2 + 1, most - 2, most - 1, most, most + 1, 2 * most, math.MaxInt - most, math.MaxInt - 1, math.MaxInt,
	}
}

// P6.1: all pairs of edges, each in each field, with others beside it.
func TestPlus(t *testing.T) {
	edges := addends()
	slowSum := func(a, b int) int {
		return told(new(big.Int).Add(number(max(a, 0)), number(max(b, 0))))
	}
	for i, a := range edges {
		for j, b := range edges {
			x, y := edges[(i+5)%len(edges)], edges[(j+9)%len(edges)]
			c, d := Counts{a, x, b}, Counts{b, y, x}
			counted(t, "plus", c.Plus(d), Counts{slowSum(a, b), slowSum(x, y), slowSum(b, x)})
			counted(t, "plus the other way", d.Plus(c), c.Plus(d))
			counted(t, "what is given", c, Counts{a, x, b})
			counted(t, "what is added", d, Counts{b, y, x})
		}
	}
	for _, c := range []struct{ a, b, want Counts }{
		{Counts{}, Counts{}, Counts{}},
		{Counts{1, 2, 3}, Counts{10, 20, 30}, Counts{11, 22, 33}},
		{Counts{1, 2, 3}, Counts{}, Counts{1, 2, 3}},
		{Counts{-5, 4, -5}, Counts{3, -4, -5}, Counts{3, 4, 0}},
		{Counts{most, most - 1, most + 1}, Counts{0, 1, -1}, Counts{most, most, most}},
		{Counts{most - 1, most, 2 * most}, Counts{0, 1, 0}, Counts{most - 1, most, most}},
		{Counts{math.MaxInt, math.MinInt, math.MaxInt}, Counts{math.MaxInt, math.MinInt, math.MinInt}, Counts{most, 0, most}},
	} {
		counted(t, "plus", c.a.Plus(c.b), c.want)
	}
}

// some gives numbers without a pattern.
func some() func(below int) int {
	x := uint64(88172645463325252)
	return func(below int) int {
		x ^= x << 13
		x ^= x >> 7
		x ^= x << 17
		return int(x >> 11 % uint64(below))
	}
}

// P6.1: each order of so many calls out of all kinds.
func TestEveryOrderOfFewCalls(t *testing.T) {
	calls := []func(b *both){
		func(b *both) { b.probe() },
		func(b *both) { b.visit() },
		func(b *both) { b.unit(1) },
		func(b *both) { b.unit(3) },
		func(b *both) { b.unit(most - 1) },
		func(b *both) { b.unit(0) },
		func(b *both) { b.reset() },
		func(b *both) { b.limit(3) },
		func(b *both) { b.limit(0) },
		func(b *both) { b.limit(most + 2) },
		func(b *both) { b.limit(-1) },
	}
	const long = 4
	orders := 1
	for range long {
		orders *= len(calls)
	}
	for order := range orders {
		b := newBoth(t, "order "+strconv.Itoa(order))
		left := order
		for range long {
			calls[left%len(calls)](b)
			b.hold()
			left /= len(calls)
		}
	}
}

// P6.1: long orders, of several meters in turns, with numbers from 0 on, near the limit, and near MaxCount.
func TestLongOrders(t *testing.T) {
	next := some()
	meters := []*both{newBoth(t, "first"), newBoth(t, "second"), newBoth(t, "third")}
	edges := addends()
	for range 60000 {
		b := meters[next(len(meters))]
		switch next(12) {
		case 0, 1, 2:
			b.probe()
		case 3, 4, 5:
			b.visit()
		case 6, 7, 8:
			b.unit(next(40) - 4)
		case 9:
			b.unit(edges[next(len(edges))])
		case 10:
			b.limit([]int{next(100), edges[next(len(edges))], -1}[next(3)])
		case 11:
			b.reset()
			if next(50) == 0 {
				*b = *newBoth(t, b.what) // so that not all counts are MaxCount from early on
			}
		}
		for _, each := range meters {
			each.hold()
		}
	}
}

// P6.2: asked of the answers alone.
func TestTheLastCountsAreWhatAllAreMoreThanAtTheReset(t *testing.T) {
	next := some()
	m := &Meter{}
	var then Counts
	limit := -1
	for range 60000 {
		switch next(7) {
		case 0:
			m.Probing().Visit()
		case 1:
			m.Working().Visit()
		case 2, 3:
			before, n := m.Last().Units, next(20)-3
			by := unit(m, n) == nil
			if by != (limit < 0 || n < 1 || before+n <= limit) {
				t.Fatalf("limit %d, %d units, %d more: by is %t", limit, before, n, by)
			}
			if limit >= 0 && m.Last().Units > max(limit, before) {
				t.Fatalf("limit %d is passed: %d units", limit, m.Last().Units)
			}
		case 4:
			if next(8) == 0 {
				limit = next(60) - 10
				m.Limit(limit)
			}
		case 5:
			if next(4) == 0 {
				m.Reset()
				then = m.All()
			}
		case 6:
			m.Unit(0)
		}
		all, last := m.All(), m.Last()
		counted(t, "last", last, Counts{all.Probes - then.Probes, all.Visits - then.Visits, all.Units - then.Units})
	}
	if all := m.All(); all.Probes < 1000 || all.Visits < 1000 || all.Units < 10000 {
		t.Fatalf("too little was counted: %+v", all)
	}
}

// P6.2: units one by one, up to each limit: just so many are let by, and a greater limit then lets by the others.
func TestALimitIsNeverPassed(t *testing.T) {
	m := &Meter{}
	for limit := range 60 {
		for _, wider := range []int{limit, limit + 1, limit + 9} {
			m.Reset()
			then := m.All()
			m.Limit(limit)
			by := 0
			for range limit + 5 {
				if unit(m, 1) == nil {
					by++
				}
			}
			if by != limit || m.Last().Units != limit {
				t.Fatalf("limit %d: %d are let by, %d counted", limit, by, m.Last().Units)
			}
			m.Limit(wider)
			for range wider + 5 {
				_ = unit(m, 1)
			}
			if m.Last().Units != wider || m.All().Units-then.Units != wider {
				t.Fatalf("limit %d: %d counted", wider, m.Last().Units)
			}
		}
	}
}
