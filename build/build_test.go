package build

import (
	"errors"
	"math"
	"reflect"
	"slices"
	"strconv"
	"strings"
	"testing"

	"ambler/api"
	"ambler/meter"
	"ambler/sound"
	"ambler/table"
	"ambler/trap"
)

// The tests hold each call against a slow build: a list of signs, one for each group, gone through one by one. A table that is taken is held against a plain map of keys, and against a table that layer 9 made.

const greatest = math.MaxUint64

// slow is a build as a list of groups that are prepared, or aren't.
type slow struct {
	prepared []bool
	taken    bool
	counts   meter.Counts // of all meters together
}

func newSlow(groups int) *slow { return &slow{prepared: make([]bool, groups)} }

func (s *slow) left() int {
	n := 0
	for _, each := range s.prepared {
		if !each {
			n++
		}
	}
	return n
}

func (s *slow) step() bool {
	for g, each := range s.prepared {
		if !each {
			s.prepared[g] = true
			s.counts.Visits++
			s.counts.Units++
			return true
		}
	}
	return false
}

func (s *slow) take() bool {
	if s.taken || s.left() > 0 {
		return false
	}
	s.taken = true
	return true
}

// both is a build and a slow one, of which each is asked what the other is, with two meters that are counted for in turns.
type both struct {
	t    *testing.T
	what string
	x    *Build
	s    *slow
	m    [2]*meter.Meter
	turn int
	made *table.Table // nil as long as it wasn't taken
}

func newBoth(t *testing.T, groups int, what string) *both {
	t.Helper()
	return &both{t: t, what: what + ", " + strconv.Itoa(groups) + " groups", x: makeNew(t, groups), s: newSlow(groups), m: [2]*meter.Meter{{}, {}}}
}

func makeNew(t *testing.T, groups int) *Build {
	t.Helper()
	b, err := New(groups)
	sameError(t, "New", err, nil)
	if b == nil {
		t.Fatalf("New of %d: no build", groups)
	}
	return b
}

func (b *both) step() {
	b.t.Helper()
	b.turn = 1 - b.turn
	m, other := b.m[b.turn], b.m[1-b.turn].All()
	m.Reset()
	is := b.s.step()
	want := meter.Counts{}
	if is {
		want = meter.Counts{Visits: 1, Units: 1}
	}
	same(b.t, b.what+", Step", b.x.Step(m), is)
	same(b.t, b.what+", what a Step counts", m.Last(), want)
	same(b.t, b.what+", what a Step counts for another meter", b.m[1-b.turn].All(), other)
	b.hold("Step")
}

func (b *both) take() {
	b.t.Helper()
	x, err := b.x.Take()
	if b.s.take() {
		sameError(b.t, b.what+", Take", err, nil)
		isNew(b.t, b.what, x, len(b.s.prepared))
		b.made = x
	} else {
		sameError(b.t, b.what+", Take", err, api.ErrState)
		same(b.t, b.what+", the table of a Take that is refused", x, nil)
	}
	b.hold("Take")
}

// hold asks all that doesn't change a build, twice, so that what asking would change is seen, too.
func (b *both) hold(behind string) {
	b.t.Helper()
	what := b.what + ", behind " + behind
	for range 2 {
		same(b.t, what+", Left", b.x.Left(), b.s.left())
		same(b.t, what+", Groups", b.x.Groups(), len(b.s.prepared))
	}
	same(b.t, what+", all counts", b.m[0].All().Plus(b.m[1].All()), b.s.counts)
}

func text(n int) string { return strconv.Itoa(n) }

func same[T comparable](t *testing.T, what string, got, want T) {
	t.Helper()
	if got != want {
		t.Fatalf("%s: %v, not %v", what, got, want)
	}
}

func sameList[T comparable](t *testing.T, what string, got, want []T) {
	t.Helper()
	if !slices.Equal(got, want) {
		t.Fatalf("%s: %v, not %v", what, got, want)
	}
}

// sameError asks by ==, not by errors.Is alone: the promise is that error, not one around it.
func sameError(t *testing.T, what string, got, want error) {
	t.Helper()
	if got == nil || want == nil {
		if got != nil || want != nil {
			t.Fatalf("%s: %v, not %v", what, got, want)
		}
		return
	}
	if got != want || !errors.Is(got, want) {
		t.Fatalf("%s: %v, not %v", what, got, want)
	}
}

// sizes are all numbers of groups that a table may have.
func sizes() []int { return []int{1, 2, 4, 8, 16, 32, 64} }

// hashing tells the hash of each key, always the same one.
type hashing struct {
	name string
	of   func(key uint64) uint64
}

// hashings gives hostile ones, too: one hash for all keys, one walk or one lower part for all.
func hashings() []hashing {
	return []hashing{
		{"one hash", func(uint64) uint64 { return 0x0123456789ABCDEF }},
		{"no hash", func(uint64) uint64 { return 0 }},
		{"the greatest hash", func(uint64) uint64 { return greatest }},
		{"one walk", func(key uint64) uint64 { return 5<<7 | key%128 }},
		{"one lower part", func(key uint64) uint64 { return key<<7 | 0x2A }},
		{"two walks", func(key uint64) uint64 { return key%2<<7 | key%3 }},
		{"the key", func(key uint64) uint64 { return key }},
		{"spread", func(key uint64) uint64 { return (key + 1) * 0x9E3779B97F4A7C15 }},
	}
}

// some gives numbers without a pattern.
func some() func(below int) int {
	x := uint64(88172645463325252)
	return func(below int) int {
		x ^= x << 13
		x ^= x >> 7
		x ^= x << 17
		return int(x >> 11 % uint64(below))
	}
}

// isNew tells by all that can be asked of a table that it has no entries.
func isNew(t *testing.T, what string, x *table.Table, groups int) {
	t.Helper()
	if x == nil {
		t.Fatalf("%s: no table", what)
	}
	same(t, what+", the table's groups", x.Groups(), groups)
	same(t, what+", its length", x.Len(), 0)
	same(t, what+", its tombs", x.Tombs(), 0)
	same(t, what+", what is left of it", x.Left(), 7*groups)
	sameList(t, what+", its text", x.Text(), slices.Repeat([]string{"........"}, groups))
	sameError(t, what+", whether it is sound", sound.Check(x), nil)
	same(t, what+", its shape", sound.Look(x), sound.Shape{Empty: 8 * groups, Open: groups})
	for g := range groups {
		list, err := x.Scan(meter.Lens{}, g)
		sameError(t, what+", a group scanned", err, nil)
		sameList(t, what+", a group scanned", list, nil)
		isNowhere(t, what, x, uint64(g), uint64(g)<<7)
	}
	_, is := x.Least(meter.Lens{}, 0, 0)
	same(t, what+", whether there is a least entry", is, false)
	_, err := x.Scan(meter.Lens{}, groups)
	sameError(t, what+", a group that it hasn't", err, api.ErrRange)
}

// isNowhere holds, too, that the first group that is looked at ends the search.
func isNowhere(t *testing.T, what string, x *table.Table, key, hash uint64) {
	t.Helper()
	m := &meter.Meter{}
	_, is := x.Find(m.Probing(), key, hash)
	same(t, what+", whether a key is there", is, false)
	same(t, what+", looks for a key", m.All(), meter.Counts{Probes: 1})
}

// ready is a build of which all groups are prepared.
func ready(t *testing.T, groups int) *Build {
	t.Helper()
	b, m := makeNew(t, groups), &meter.Meter{}
	for range groups {
		same(t, "Step", b.Step(m), true)
	}
	return b
}

// made is the table of a build.
func made(t *testing.T, groups int) *table.Table {
	t.Helper()
	x, err := ready(t, groups).Take()
	sameError(t, "Take", err, nil)
	return x
}

// P11.1
func TestTheExample(t *testing.T) {
	b, m := makeNew(t, 2), &meter.Meter{}
	same(t, "Step", b.Step(m), true)
	same(t, "Step", b.Step(m), true)
	x, err := b.Take()
	sameError(t, "Take", err, nil)
	same(t, "counted", m.All(), meter.Counts{Visits: 2, Units: 2})
	isNew(t, "taken", x, 2)
}

// P11.1: each number that there may be, and all that there may not be from below to far above; the error is the one that layer 9 has.
func TestNewOfEachNumberOfGroups(t *testing.T) {
	numbers := []int{math.MinInt, math.MinInt + 1, math.MinInt32, -1 << 16, 1 << 16, math.MaxInt32, 1 << 32, 1<<32 + 1, 1 << 62, math.MaxInt - 1, math.MaxInt}
	for n := -300; n <= 300; n++ {
		numbers = append(numbers, n)
	}
	rights := 0
	for _, n := range numbers {
		b, err := New(n)
		_, want := table.Raw(n)
		sameError(t, "New of "+text(n), err, want)
		if slices.Contains(sizes(), n) {
			rights++
			sameError(t, "New of "+text(n), err, nil)
			same(t, "Groups of "+text(n), b.Groups(), n)
			same(t, "Left of "+text(n), b.Left(), n)
			continue
		}
		sameError(t, "New of "+text(n), err, api.ErrRange)
		same(t, "the build of "+text(n), b, nil)
	}
	same(t, "numbers that there may be", rights, 7)
}

// P11.1: Left and Groups ahead of the first Step, behind each, and behind the last one; a Take that is refused ahead of each; and then once more a Step, a Take, and each again.
func TestStepByStep(t *testing.T) {
	for _, groups := range sizes() {
		b := newBoth(t, groups, "step by step")
		b.hold("New")
		for n := range groups {
			b.take()
			same(t, "Left", b.x.Left(), groups-n)
			b.step()
			same(t, "Left", b.x.Left(), groups-n-1)
			same(t, "Groups", b.x.Groups(), groups)
		}
		for range 3 {
			b.step()
		}
		same(t, "all counts", b.m[0].All().Plus(b.m[1].All()), meter.Counts{Visits: groups, Units: groups})
		b.take()
		same(t, "whether it was taken", b.made != nil, true)
		for range 3 {
			b.step()
			b.take()
		}
		same(t, "Left behind Take", b.x.Left(), 0)
		same(t, "Groups behind Take", b.x.Groups(), groups)
	}
}

// P11.1: a Take that is refused, as often as may be, takes nothing away.
func TestTakeTooEarly(t *testing.T) {
	for _, groups := range sizes() {
		for steps := range groups {
			b := newBoth(t, groups, "too early")
			for range steps {
				b.step()
			}
			for range 3 {
				x, err := b.x.Take()
				sameError(t, "Take", err, api.ErrState)
				same(t, "the table", x, nil)
				b.hold("Take")
			}
			for range groups - steps {
				b.step()
			}
			b.take()
			same(t, "whether it was taken", b.made != nil, true)
		}
	}
}

// P11.1: all orders of a few calls.
func TestAllShortOrders(t *testing.T) {
	for _, each := range []struct{ groups, calls int }{{1, 10}, {2, 10}, {4, 11}, {8, 12}} {
		for order := range 1 << each.calls {
			b := newBoth(t, each.groups, "order "+strconv.FormatInt(int64(order), 2))
			for n := range each.calls {
				if order>>n&1 == 0 {
					b.step()
				} else {
					b.take()
				}
			}
		}
	}
}

// P11.1: long orders, of each number of groups.
func TestLongOrders(t *testing.T) {
	next := some()
	takes := 0
	for _, groups := range sizes() {
		for range 40 {
			b := newBoth(t, groups, "a long order")
			for range 3*groups + 8 {
				if next(3) < 2 {
					b.step()
				} else {
					b.take()
				}
			}
			if b.made != nil {
				takes++
				isNew(t, b.what+", at the end", b.made, groups)
			}
		}
	}
	if takes < 140 {
		t.Fatalf("too little was seen: %d tables taken", takes)
	}
}

// P11.1: which groups are prepared can't be asked of a table that isn't ready. So the one that the build holds is laid beside one of layer 9 of which the same groups were prepared, and neither is asked.
func TestFromZeroOn(t *testing.T) {
	for _, groups := range sizes() {
		b, m := makeNew(t, groups), &meter.Meter{}
		want, err := table.Raw(groups)
		sameError(t, "Raw", err, nil)
		held := b.made
		for g := range groups {
			same(t, "whether it is as it should be ahead of Step "+text(g)+" of "+text(groups), reflect.DeepEqual(held, want), true)
			sameError(t, "Prepare", want.Prepare(meter.Lens{}, g), nil)
			same(t, "Step", b.Step(m), true)
			same(t, "whether it is as it should be behind Step "+text(g)+" of "+text(groups), reflect.DeepEqual(held, want), true)
		}
		x, err := b.Take()
		sameError(t, "Take", err, nil)
		same(t, "whether the table that was made ready is taken", x == held, true)
	}
}

// P11.1: a meter may have counted before, and counts on behind a Step; what it counted, and that it isn't reset, is the same.
func TestAMeterThatHasCounted(t *testing.T) {
	b, m := makeNew(t, 4), &meter.Meter{}
	m.Unit(5)
	m.Probing().Visit()
	b.Step(m)
	same(t, "last", m.Last(), meter.Counts{Probes: 1, Visits: 1, Units: 6})
	b.Step(m)
	same(t, "last", m.Last(), meter.Counts{Probes: 1, Visits: 2, Units: 7})
	m.Reset()
	b.Step(m)
	same(t, "last", m.Last(), meter.Counts{Visits: 1, Units: 1})
	same(t, "all", m.All(), meter.Counts{Probes: 1, Visits: 3, Units: 8})
	b.Step(m)
	same(t, "whether there was one", b.Step(m), false)
	same(t, "all", m.All(), meter.Counts{Probes: 1, Visits: 4, Units: 9})
}

// P11.1: a Step that would pass the meter's limit raises ErrLimit, as layer 6 tells of it, and does nothing; the Steps go on when the limit lets them. Where no group is left, nothing is counted, so that nothing is raised.
func TestAMeterWithALimit(t *testing.T) {
	for _, groups := range sizes() {
		for limit := range groups {
			b, m := makeNew(t, groups), &meter.Meter{}
			m.Limit(limit)
			for range limit {
				same(t, "Step", b.Step(m), true)
			}
			for range 2 {
				sameError(t, "Step", trap.Catch(func() { b.Step(m) }), api.ErrLimit)
				same(t, "Left", b.Left(), groups-limit)
				same(t, "counted", m.All(), meter.Counts{Visits: limit, Units: limit})
			}
			m.Limit(groups)
			for range groups - limit {
				same(t, "Step", b.Step(m), true)
			}
			sameError(t, "Step", trap.Catch(func() { same(t, "Step", b.Step(m), false) }), nil)
			same(t, "counted", m.All(), meter.Counts{Visits: groups, Units: groups})
			x, err := b.Take()
			sameError(t, "Take", err, nil)
			isNew(t, "taken", x, groups)
		}
	}
}

// P11.1: several builds, stepped in turns, have each its own table.
func TestSeveralBuilds(t *testing.T) {
	for _, groups := range sizes() {
		a, b, m := newBoth(t, groups, "the one"), newBoth(t, groups, "the other"), &meter.Meter{}
		for range groups {
			a.step()
			b.step()
		}
		a.take()
		if _, err := a.made.Put(m.Probing(), api.Entry{Key: 1, Val: 2, Hash: 3}); err != nil {
			t.Fatal(err)
		}
		b.step()
		b.take()
		same(t, "one table of two builds", a.made == b.made, false)
		same(t, "length of the one", a.made.Len(), 1)
		same(t, "length of the other", b.made.Len(), 0)
	}
}

// P11.1: what is asked of a build behind Take doesn't touch the table, which is the caller's then.
func TestTheTableIsTheCallers(t *testing.T) {
	for _, groups := range sizes() {
		b := newBoth(t, groups, "the caller's")
		for range groups {
			b.step()
		}
		b.take()
		for key := range uint64(7 * groups) {
			if _, err := b.made.Put(meter.Lens{}, api.Entry{Key: key, Val: key + 1, Hash: key << 5}); err != nil {
				t.Fatal(err)
			}
		}
		before := b.made.Text()
		for range groups + 1 {
			b.step()
			b.take()
		}
		sameList(t, "the table's text", b.made.Text(), before)
		same(t, "its length", b.made.Len(), 7*groups)
		sameError(t, "whether it is sound", sound.Check(b.made), nil)
		for key := range uint64(7 * groups) {
			e, is := b.made.Find(meter.Lens{}, key, key<<5)
			same(t, "found", e, api.Entry{Key: key, Val: key + 1, Hash: key << 5})
			same(t, "found", is, true)
		}
	}
}

// pair is a table that was taken, one that layer 9 made, and a plain map, of which each is given what the others are.
type pair struct {
	t      *testing.T
	what   string
	taken  *table.Table
	other  *table.Table
	plain  map[uint64]api.Entry
	m, of9 *meter.Meter
}

func (p *pair) put(e api.Entry) {
	p.t.Helper()
	isNew, err := p.taken.Put(p.m.Probing(), e)
	want, wantErr := p.other.Put(p.of9.Probing(), e)
	_, was := p.plain[e.Key]
	same(p.t, p.what+", Put", isNew, want)
	sameError(p.t, p.what+", Put", err, wantErr)
	same(p.t, p.what+", Put, held against the map", isNew || err != nil, !was)
	if err == nil {
		p.plain[e.Key] = e
	}
}

func (p *pair) find(key, hash uint64) {
	p.t.Helper()
	e, is := p.taken.Find(p.m.Probing(), key, hash)
	p.other.Find(p.of9.Probing(), key, hash)
	want, was := p.plain[key]
	same(p.t, p.what+", Find", e, want)
	same(p.t, p.what+", Find", is, was)
}

func (p *pair) remove(key, hash uint64) {
	p.t.Helper()
	e, is := p.taken.Delete(p.m.Probing(), key, hash)
	p.other.Delete(p.of9.Probing(), key, hash)
	want, was := p.plain[key]
	same(p.t, p.what+", Delete", e, want)
	same(p.t, p.what+", Delete", is, was)
	delete(p.plain, key)
}

func (p *pair) take(g int) {
	p.t.Helper()
	list, err := p.taken.Take(p.m.Working(), g)
	want, wantErr := p.other.Take(p.of9.Working(), g)
	sameList(p.t, p.what+", Take", list, want)
	sameError(p.t, p.what+", Take", err, wantErr)
	for _, e := range list {
		same(p.t, p.what+", Take, held against the map", e, p.plain[e.Key])
		delete(p.plain, e.Key)
	}
}

func (p *pair) seek(e api.Entry) {
	p.t.Helper()
	err := p.taken.Seek(p.m.Probing(), e.Key, e.Hash).Place(e)
	sameError(p.t, p.what+", Place", err, p.other.Seek(p.of9.Probing(), e.Key, e.Hash).Place(e))
	if err == nil {
		p.plain[e.Key] = e
	}
}

func (p *pair) least(hash, key uint64) {
	p.t.Helper()
	e, is := p.taken.Least(p.m.Working(), hash, key)
	want, wantIs := p.other.Least(p.of9.Working(), hash, key)
	same(p.t, p.what+", Least", e, want)
	same(p.t, p.what+", Least", is, wantIs)
}

func (p *pair) hold() {
	p.t.Helper()
	same(p.t, p.what+", counts", p.m.All(), p.of9.All())
	same(p.t, p.what+", length", p.taken.Len(), len(p.plain))
	same(p.t, p.what+", tombs", p.taken.Tombs(), p.other.Tombs())
	same(p.t, p.what+", left", p.taken.Left(), p.other.Left())
	same(p.t, p.what+", text", strings.Join(p.taken.Text(), " "), strings.Join(p.other.Text(), " "))
}

// P11.1: a table that is taken does what layer 9 tells of one without entries, whatever is asked of it, until it is full, and behind that.
func TestATakenTableIsATable(t *testing.T) {
	next := some()
	full := 0
	for _, groups := range sizes() {
		for _, h := range hashings() {
			other, err := table.New(groups)
			sameError(t, "a table of layer 9", err, nil)
			p := &pair{t: t, what: h.name + ", " + text(groups) + " groups", taken: made(t, groups), other: other, plain: map[uint64]api.Entry{}, m: &meter.Meter{}, of9: &meter.Meter{}}
			p.hold()
			for n := range 20*groups + 60 {
				key := uint64(next(10 * groups))
				e := api.Entry{Key: key, Val: uint64(n), Hash: h.of(key)}
				switch next(16) {
				case 0:
					p.take(next(groups+2) - 1)
				case 1:
					p.least(e.Hash, key)
				case 2, 3:
					p.remove(key, e.Hash)
				case 4, 5, 6:
					p.find(key, e.Hash)
				case 7, 8:
					p.seek(e)
				default:
					p.put(e)
				}
				p.hold()
			}
			for key := range uint64(9 * groups) {
				p.put(api.Entry{Key: key, Hash: h.of(key)})
			}
			p.hold()
			if p.taken.Left() == 0 {
				full++
			}
			for key := range uint64(10 * groups) {
				p.find(key, h.of(key))
			}
			sameError(t, p.what+", whether it is sound", sound.Check(p.taken), nil)
		}
	}
	same(t, "tables that got full", full, len(sizes())*len(hashings()))
}
