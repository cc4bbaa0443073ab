package dual

import (
	"cmp"
	"errors"
	"maps"
	"math"
	"slices"
	"strconv"
	"testing"

	"ambler/api"
	"ambler/meter"
	"ambler/sound"
	"ambler/table"
	"ambler/trap"
)

// The tests hold each call against a slow dual: slow tables that are lists of groups of eight slots each, gone through one by one, with no layer below, and against a plain map from keys to entries. A hash's bit is read off its 64 figures.

const (
	lanes    = 8
	greatest = math.MaxUint64
)

type slot struct {
	sign byte // '.', 'x' or '#'
	e    api.Entry
}

// slow is a table as a list of slots.
type slow struct {
	groups [][lanes]slot
}

func newSlow(groups int) *slow {
	s := &slow{groups: make([][lanes]slot, groups)}
	for g := range s.groups {
		for i := range lanes {
			s.groups[g][i] = slot{sign: '.'}
		}
	}
	return s
}

func (s *slow) count(sign byte) int {
	n := 0
	for _, g := range s.groups {
		for _, each := range g {
			if each.sign == sign {
				n++
			}
		}
	}
	return n
}

func (s *slow) left() int { return 7*len(s.groups) - s.count('#') - s.count('x') }

// walk adds 1, 2, 3 .. one by one.
func (s *slow) walk(hash uint64) []int {
	n := uint64(len(s.groups))
	place := hash / 128 % n
	var places []int
	for i := range n {
		place = (place + i) % n
		places = append(places, int(place))
	}
	return places
}

func (s *slow) isOpen(g int) bool {
	for _, each := range s.groups[g] {
		if each.sign == '.' {
			return true
		}
	}
	return false
}

// seek is the place of a key, and how many groups are looked at for it; of a key that isn't there the slot is -1.
func (s *slow) seek(key, hash uint64) (g, i, looks int) {
	for n, g := range s.walk(hash) {
		for i, each := range s.groups[g] {
			if each.sign == '#' && each.e.Key == key {
				return g, i, n + 1
			}
		}
		if s.isOpen(g) {
			return 0, -1, n + 1
		}
	}
	return 0, -1, len(s.groups)
}

// put wants a key that isn't there; it tells whether there was room.
func (s *slow) put(e api.Entry) bool {
	if s.left() == 0 {
		return false
	}
	for _, g := range s.walk(e.Hash) {
		for i, each := range s.groups[g] {
			if each.sign != '#' {
				s.groups[g][i] = slot{'#', e}
				return true
			}
		}
	}
	panic("something is left, and no slot is free")
}

func (s *slow) erase(g, i int) {
	sign := byte('x')
	for k, each := range s.groups[g] {
		if k != i && each.sign == '.' {
			sign = '.'
		}
	}
	s.groups[g][i] = slot{sign: sign}
}

func (s *slow) entries(g int) []api.Entry {
	var list []api.Entry
	for _, each := range s.groups[g] {
		if each.sign == '#' {
			list = append(list, each.e)
		}
	}
	return list
}

func (s *slow) text() []string {
	var list []string
	for _, g := range s.groups {
		var signs [lanes]byte
		for i, each := range g {
			signs[i] = each.sign
		}
		list = append(list, string(signs[:]))
	}
	return list
}

// slowDual is a dual of slow tables.
type slowDual struct {
	old             *slow
	fresh           []*slow
	depth           int
	prepared, moved int
}

func (s *slowDual) freshGroups() int { return len(s.fresh) * len(s.fresh[0].groups) }

func (s *slowDual) ready() bool { return s.prepared == s.freshGroups() }

func (s *slowDual) left() int {
	return s.freshGroups() - s.prepared + len(s.old.groups) - s.moved
}

func (s *slowDual) target(hash uint64) *slow {
	if len(s.fresh) == 1 {
		return s.fresh[0]
	}
	return s.fresh[figure(hash, s.depth)]
}

// stand is where a new entry stands.
func (s *slowDual) stand(hash uint64) *slow {
	if s.ready() {
		return s.target(hash)
	}
	return s.old
}

// seek is where a key is; no table, if it isn't there.
func (s *slowDual) seek(key, hash uint64) (in *slow, g, i, looks int) {
	if s.ready() {
		in = s.target(hash)
		if g, i, looks = in.seek(key, hash); i >= 0 {
			return in, g, i, looks
		}
	}
	g, i, more := s.old.seek(key, hash)
	if i < 0 {
		return nil, 0, -1, looks + more
	}
	return s.old, g, i, looks + more
}

// asked is the tables that may be asked.
func (s *slowDual) asked() []*slow {
	if s.ready() {
		return append([]*slow{s.old}, s.fresh...)
	}
	return []*slow{s.old}
}

// all is all entries, in the order.
func (s *slowDual) all() []api.Entry {
	var list []api.Entry
	for _, each := range s.asked() {
		for g := range each.groups {
			list = append(list, each.entries(g)...)
		}
	}
	slices.SortFunc(list, inOrder)
	return list
}

// step tells whether there is a step, whether it should panic, and what it should count: where it panics the entries that were placed have been looked for in the old table once more, and all others stay there.
func (s *slowDual) step() (is, broken bool, counts meter.Counts) {
	counts = meter.Counts{Visits: 1, Units: 1}
	switch {
	case !s.ready():
		s.prepared++
		return true, false, counts
	case s.left() == 0:
		return false, false, meter.Counts{}
	}
	list := s.old.entries(s.moved)
	for n, e := range list {
		to := s.target(e.Hash)
		_, _, looks := to.seek(e.Key, e.Hash)
		counts.Visits += looks
		if !to.put(e) {
			for _, placed := range list[:n] {
				g, i, looks := s.old.seek(placed.Key, placed.Hash)
				counts.Visits += looks
				s.old.erase(g, i)
			}
			return true, true, counts
		}
	}
	for i, each := range s.old.groups[s.moved] {
		if each.sign == '#' {
			s.old.erase(s.moved, i)
		}
	}
	s.moved++
	return true, false, counts
}

func inOrder(a, b api.Entry) int {
	return cmp.Or(cmp.Compare(a.Hash, b.Hash), cmp.Compare(a.Key, b.Key))
}

// figure is one of the 64 figures of a hash, from the highest one on.
func figure(hash uint64, i int) int {
	for range 63 - i {
		hash /= 2
	}
	return int(hash % 2)
}

// both is a dual, a slow one, and a plain map, with two meters that are counted for in turns, by either lens.
type both struct {
	t      *testing.T
	what   string
	x      *Dual
	old    *table.Table
	s      *slowDual
	plain  map[uint64]api.Entry
	first  int // how many steps were left at first
	steps  int
	taken  []*table.Table
	counts meter.Counts // of both meters together
	m      [2]*meter.Meter
	turn   int
}

// newBoth is of an old table that was put these entries, in their order, and of which then those of these keys were let go.
func newBoth(t *testing.T, what string, oldGroups, groups, depth int, put, gone []api.Entry) *both {
	t.Helper()
	old, err := table.New(oldGroups)
	sameError(t, what+", a table", err, nil)
	b := &both{t: t, what: what, old: old, plain: map[uint64]api.Entry{}, m: [2]*meter.Meter{{}, {}}}
	b.s = &slowDual{old: newSlow(oldGroups), depth: depth, fresh: []*slow{newSlow(groups)}}
	if depth >= 0 {
		b.s.fresh = append(b.s.fresh, newSlow(groups))
	}
	b.fill(put, gone)
	b.x, err = New(old, groups, depth)
	sameError(t, what+", New", err, nil)
	if b.x == nil {
		t.Fatal(what + ": no dual")
	}
	b.first = oldGroups + len(b.s.fresh)*groups
	b.hold("New")
	b.holdAll("New")
	return b
}

func (b *both) fill(put, gone []api.Entry) {
	b.t.Helper()
	for _, e := range put {
		is, err := b.old.Put(meter.Lens{}, e)
		sameError(b.t, b.what+", the old table's Put", err, nil)
		same(b.t, b.what+", the old table's Put", is, b.s.old.put(e))
		b.plain[e.Key] = e
	}
	for _, e := range gone {
		_, is := b.old.Delete(meter.Lens{}, e.Key, e.Hash)
		same(b.t, b.what+", the old table's Delete", is, true)
		g, i, _ := b.s.old.seek(e.Key, e.Hash)
		b.s.old.erase(g, i)
		delete(b.plain, e.Key)
	}
}

// lens is another one each time; add counts what it should have counted.
func (b *both) lens() meter.Lens {
	b.turn = (b.turn + 1) % 4
	m := b.m[b.turn%2]
	m.Reset()
	if b.turn < 2 {
		return m.Probing()
	}
	return m.Working()
}

func (b *both) add(what string, looks int) {
	b.t.Helper()
	want := meter.Counts{Visits: looks}
	if b.turn < 2 {
		want = meter.Counts{Probes: looks}
	}
	same(b.t, b.what+", what is counted by "+what, b.m[b.turn%2].Last(), want)
	b.counts = b.counts.Plus(want)
}

func (b *both) find(key, hash uint64) {
	b.t.Helper()
	what := b.at("Find of " + name(key))
	want, was := b.plain[key]
	_, _, _, looks := b.s.seek(key, hash)
	got, is := b.x.Find(b.lens(), key, hash)
	same(b.t, what, got, want)
	same(b.t, what+", whether it is there", is, was)
	b.add(what, looks)
	b.hold("Find")
}

// put answers the error, so that a test can tell what it has seen.
func (b *both) put(e api.Entry, more bool) error {
	b.t.Helper()
	what := b.at("Put of " + name(e.Key))
	in, g, i, looks := b.s.seek(e.Key, e.Hash)
	_, was := b.plain[e.Key]
	same(b.t, what+", whether the two models are one", in != nil, was)
	var want error
	switch {
	case was:
		in.groups[g][i].e.Val = e.Val
	case !more || !b.s.stand(e.Hash).put(e):
		want = api.ErrFull
	}
	is, err := b.x.Put(b.lens(), e, more)
	sameError(b.t, what, err, want)
	same(b.t, what+", whether the key is new", is, !was && want == nil)
	if want == nil {
		b.plain[e.Key] = e
	}
	b.add(what, looks)
	b.hold("Put")
	return err
}

func (b *both) remove(key, hash uint64) {
	b.t.Helper()
	what := b.at("Delete of " + name(key))
	want, was := b.plain[key]
	in, g, i, looks := b.s.seek(key, hash)
	if was {
		in.erase(g, i)
		delete(b.plain, key)
	}
	got, is := b.x.Delete(b.lens(), key, hash)
	same(b.t, what, got, want)
	same(b.t, what+", whether it was there", is, was)
	b.add(what, looks)
	b.hold("Delete")
}

func (b *both) least(hash, key uint64) {
	b.t.Helper()
	what := b.at("Least from " + name(hash) + ", " + name(key) + " on")
	var want api.Entry
	was := false
	for _, e := range slices.SortedFunc(maps.Values(b.plain), inOrder) {
		if inOrder(e, api.Entry{Key: key, Hash: hash}) >= 0 {
			want, was = e, true
			break
		}
	}
	looks := 0
	for _, each := range b.s.asked() {
		looks += len(each.groups)
	}
	got, is := b.x.Least(b.lens(), hash, key)
	same(b.t, what, got, want)
	same(b.t, what+", whether there is one", is, was)
	b.add(what, looks)
	b.hold("Least")
}

// step tells whether it panicked.
func (b *both) step() bool {
	b.t.Helper()
	b.turn = 1 - b.turn%2
	m, other := b.m[b.turn], b.m[1-b.turn].All()
	m.Reset()
	what := b.at("Step")
	is, broken, counts := b.s.step()
	got := false
	panicked := panicOf(func() { got = b.x.Step(m) })
	if broken {
		same(b.t, what+", its panic", panicked, panicOf(func() { trap.Raise(api.ErrBroken) }))
	} else {
		same(b.t, what+", its panic", panicked, nil)
		same(b.t, what, got, is)
	}
	if is && !broken {
		b.steps++
	}
	same(b.t, what+", what it counts", m.Last(), counts)
	same(b.t, what+", what it counts for another meter", b.m[1-b.turn].All(), other)
	b.counts = b.counts.Plus(counts)
	b.hold("Step")
	return broken
}

// take tells whether the tables were taken.
func (b *both) take() bool {
	b.t.Helper()
	what := b.at("Take")
	list, err := b.x.Take()
	if b.s.left() > 0 || b.taken != nil {
		sameError(b.t, what, err, api.ErrState)
		sameList(b.t, what, list, nil)
		b.hold("Take")
		return false
	}
	sameError(b.t, what, err, nil)
	same(b.t, what+", how many tables", len(list), len(b.s.fresh))
	b.taken = list
	for n, x := range list {
		same(b.t, what+", whether a table is the old one", x == b.old, false)
		sameError(b.t, what+", whether table "+text(n)+" is sound", sound.Check(x), nil)
	}
	b.hold("Take")
	return true
}

// panicOf is what f panics with: Catch answers ErrBroken of what was raised and of any other panic, too.
func panicOf(f func()) (with any) {
	defer func() { with = recover() }()
	f()
	return nil
}

// hold asks all that doesn't change anything, twice, so that what asking would change is seen, too.
func (b *both) hold(behind string) {
	b.t.Helper()
	what := b.at(behind)
	for range 2 {
		same(b.t, what+", Left", b.x.Left(), b.s.left())
		same(b.t, what+", Ready", b.x.Ready(), b.s.ready())
		same(b.t, what+", Len", b.x.Len(), len(b.plain))
		same(b.t, what+", Groups", b.x.Groups(), b.first)
	}
	same(b.t, what+", what is left and what was done", b.s.left()+b.steps, b.first)
	sameTable(b.t, what+", the old table", b.old, b.s.old)
	for n, x := range b.taken {
		sameTable(b.t, what+", taken table "+text(n), x, b.s.fresh[n])
	}
	same(b.t, what+", all counts", b.m[0].All().Plus(b.m[1].All()), b.counts)
}

// holdAll holds that the dual is that partial function: all keys, found one by one and gone through in the order, and keys that aren't there.
func (b *both) holdAll(behind string) {
	b.t.Helper()
	what := b.at(behind)
	all := slices.SortedFunc(maps.Values(b.plain), inOrder)
	sameList(b.t, what+", the slow dual", b.s.all(), all)
	for _, want := range all {
		e, is := b.x.Find(meter.Lens{}, want.Key, want.Hash)
		same(b.t, what+", Find", e, want)
		same(b.t, what+", whether it is there", is, true)
		e, is = b.x.Find(meter.Lens{}, ^want.Key, want.Hash)
		if _, was := b.plain[^want.Key]; !was {
			same(b.t, what+", Find of a key that isn't there", e, api.Entry{})
			same(b.t, what+", whether it is there", is, false)
		}
	}
	// Going through all of a great dual takes too long behind each Step.
	if len(all) > 60 && b.s.left()%8 > 0 {
		return
	}
	sameList(b.t, what+", all entries", through(b.x), all)
}

// through is all entries, by Least.
func through(x *Dual) []api.Entry {
	var list []api.Entry
	e, is := x.Least(meter.Lens{}, 0, 0)
	for is {
		list = append(list, e)
		switch {
		case e.Key < greatest:
			e, is = x.Least(meter.Lens{}, e.Hash, e.Key+1)
		case e.Hash < greatest:
			e, is = x.Least(meter.Lens{}, e.Hash+1, 0)
		default:
			is = false
		}
	}
	return list
}

func (b *both) at(what string) string {
	return b.what + ", " + what + " with " + text(b.x.Left()) + " left"
}

// toTheEnd holds P13.2 behind every single Step.
func (b *both) toTheEnd() {
	b.t.Helper()
	for b.s.left() > 0 {
		before := maps.Clone(b.plain)
		same(b.t, b.what+", whether a Step panicked", b.step(), false)
		same(b.t, b.what+", whether a Step changed the map", maps.Equal(before, b.plain), true)
		b.holdAll("a Step")
	}
	same(b.t, b.what+", in how many Steps it was moved", b.steps, b.first)
	same(b.t, b.what+", the old table's length", b.old.Len(), 0)
	same(b.t, b.what+", whether there is one more", b.x.Step(b.m[0]), false)
	same(b.t, b.what+", whether the tables are taken", b.take(), true)
	b.holdAll("Take")
	for n, x := range b.taken {
		for g := range x.Groups() {
			for _, e := range scan(b.t, x, g) {
				same(b.t, b.what+", the target of an entry of table "+text(n), b.s.target(e.Hash) == b.s.fresh[n], true)
			}
		}
	}
}

func sameTable(t *testing.T, what string, x *table.Table, s *slow) {
	t.Helper()
	same(t, what+", groups", x.Groups(), len(s.groups))
	same(t, what+", length", x.Len(), s.count('#'))
	same(t, what+", tombs", x.Tombs(), s.count('x'))
	same(t, what+", left", x.Left(), s.left())
	sameList(t, what+", text", x.Text(), s.text())
	for g := range s.groups {
		sameList(t, what+", group "+text(g), scan(t, x, g), s.entries(g))
	}
}

func scan(t *testing.T, x *table.Table, g int) []api.Entry {
	t.Helper()
	list, err := x.Scan(meter.Lens{}, g)
	sameError(t, "Scan", err, nil)
	return list
}

func text(n int) string { return strconv.Itoa(n) }

func name(n uint64) string { return strconv.FormatUint(n, 10) }

func same[T comparable](t *testing.T, what string, got, want T) {
	t.Helper()
	if got != want {
		t.Fatalf("%s: %v, not %v", what, got, want)
	}
}

func sameList[T comparable](t *testing.T, what string, got, want []T) {
	t.Helper()
	if !slices.Equal(got, want) {
		t.Fatalf("%s: %v, not %v", what, got, want)
	}
}

// sameError asks by ==, not by errors.Is alone: the promise is that error, not one around it.
func sameError(t *testing.T, what string, got, want error) {
	t.Helper()
	if got == nil || want == nil {
		if got != nil || want != nil {
			t.Fatalf("%s: %v, not %v", what, got, want)
		}
		return
	}
	if got != want || !errors.Is(got, want) {
		t.Fatalf("%s: %v, not %v", what, got, want)
	}
}

// sizes are all numbers of groups that a table may have.
func sizes() []int { return []int{1, 2, 4, 8, 16, 32, 64} }

// hashing tells the hash of each key, always the same one.
type hashing struct {
	name string
	of   func(key uint64) uint64
}

// hashings gives hostile ones, too: one hash for all keys, one walk, one lower part, or one target for all.
func hashings() []hashing {
	return []hashing{
		{"one hash", func(uint64) uint64 { return 0x0123456789ABCDEF }},
		{"no hash", func(uint64) uint64 { return 0 }},
		{"the greatest hash", func(uint64) uint64 { return greatest }},
		{"one walk", func(key uint64) uint64 { return key<<48 | 5<<7 | key%128 }},
		{"one lower part", func(key uint64) uint64 { return key<<7 | key<<60 | 0x2A }},
		{"two hashes", func(key uint64) uint64 { return -(key % 2) }},
		{"the key", func(key uint64) uint64 { return key }},
		{"spread", func(key uint64) uint64 { return (key + 1) * 0x9E3779B97F4A7C15 }},
	}
}

func (h hashing) entry(key, val uint64) api.Entry {
	return api.Entry{Key: key, Val: val, Hash: h.of(key)}
}

func (h hashing) entries(from, to int) []api.Entry {
	var list []api.Entry
	for key := from; key < to; key++ {
		list = append(list, h.entry(uint64(key), uint64(key)+100))
	}
	return list
}

// of gives entries of so many keys in a row, all with one hash.
func of(from, to int, hash uint64) []api.Entry {
	return hashing{of: func(uint64) uint64 { return hash }}.entries(from, to)
}

// some gives numbers without a pattern.
func some() func(below int) int {
	x := uint64(88172645463325252)
	return func(below int) int {
		x ^= x << 13
		x ^= x >> 7
		x ^= x << 17
		return int(x >> 11 % uint64(below))
	}
}

// numbers are far below to far above those that there may be.
func numbers() []int {
	list := []int{math.MinInt, math.MinInt + 1, math.MinInt32, -1 << 16, 1 << 16, math.MaxInt32, 1 << 32, 1<<32 + 1, 1 << 62, math.MaxInt - 1, math.MaxInt}
	for n := -300; n <= 300; n++ {
		list = append(list, n)
	}
	return list
}

func newTable(t *testing.T, groups int) *table.Table {
	t.Helper()
	x, err := table.New(groups)
	sameError(t, "a table", err, nil)
	return x
}

// refused holds that an error comes alone.
func refused(t *testing.T, want error, old *table.Table, groups, depth int) {
	t.Helper()
	what := "New of " + text(groups) + ", depth " + text(depth)
	d, err := New(old, groups, depth)
	sameError(t, what, err, want)
	same(t, what+", the dual", d, nil)
}

// P13.1
func TestTheExample(t *testing.T) {
	b := newBoth(t, "the example", 1, 2, -1, of(0, 3, 7), nil)
	same(t, "Left", b.x.Left(), 3)
	b.toTheEnd()
	same(t, "Steps", b.steps, 3)
	same(t, "counted", b.m[0].All().Plus(b.m[1].All()), meter.Counts{Visits: 6, Units: 3})

	split := newBoth(t, "one new group for each bit", 1, 1, 0, append(of(0, 2, 0), of(2, 3, 1<<63)...), nil)
	same(t, "Left", split.x.Left(), 3)
	split.toTheEnd()
	same(t, "length of number 0", split.taken[0].Len(), 2)
	same(t, "length of number 1", split.taken[1].Len(), 1)
}

// P13.1: nil is told ahead of what else is wrong.
func TestNewOfNil(t *testing.T) {
	for _, groups := range []int{math.MinInt, -1, 0, 1, 3, 64, 128, math.MaxInt} {
		for _, depth := range []int{math.MinInt, -1, 0, 15, 16, math.MaxInt} {
			refused(t, api.ErrNone, nil, groups, depth)
		}
	}
}

// P13.1: each number of groups, with depths that there may be and one that there may not be.
func TestNewOfEachNumberOfGroups(t *testing.T) {
	old := newTable(t, 2)
	rights := 0
	for _, groups := range numbers() {
		for _, depth := range []int{math.MinInt, -1, 0, 15} {
			if !slices.Contains(sizes(), groups) {
				refused(t, api.ErrRange, old, groups, depth)
				continue
			}
			rights++
			d, err := New(old, groups, depth)
			sameError(t, "New of "+text(groups), err, nil)
			want := 2 + groups
			if depth >= 0 {
				want = 2 + 2*groups
			}
			same(t, "Groups of "+text(groups), d.Groups(), want)
			same(t, "Left of "+text(groups), d.Left(), want)
			same(t, "Ready of "+text(groups), d.Ready(), false)
		}
		refused(t, api.ErrRange, old, groups, 16)
	}
	same(t, "numbers that there may be", rights, 4*7)
}

// P13.1: above 15 there is no depth; from 0 to 15 there are two new tables, below 0 there is one.
func TestNewOfEachDepth(t *testing.T) {
	twos := 0
	for _, depth := range numbers() {
		if depth > 15 {
			refused(t, api.ErrRange, newTable(t, 2), 4, depth)
			refused(t, api.ErrRange, newTable(t, 2), 3, depth)
			continue
		}
		b := newBoth(t, "depth "+text(depth), 2, 4, depth, of(0, 9, 0x5555555555555555), nil)
		b.toTheEnd()
		if len(b.taken) == 2 {
			twos++
		}
	}
	same(t, "depths of two new tables", twos, 16)
}

// P13.1: the bit of the depth alone tells the new table: of hashes that have just that bit, or all others.
func TestTheBitOfEachDepth(t *testing.T) {
	for depth := range 16 {
		var list []api.Entry
		for i := range 24 {
			list = append(list, api.Entry{Key: uint64(2 * i), Hash: 1 << (63 - i)}, api.Entry{Key: uint64(2*i + 1), Hash: ^(1 << (63 - i))})
		}
		b := newBoth(t, "depth "+text(depth), 8, 8, depth, list, nil)
		b.toTheEnd()
		is := func(n, key int) bool {
			e := list[key]
			_, is := b.taken[n].Find(meter.Lens{}, e.Key, e.Hash)
			return is
		}
		same(t, "whether number 1 has the bit alone", is(1, 2*depth), true)
		same(t, "whether number 0 has all other bits", is(0, 2*depth+1), true)
		same(t, "length of number 0", b.taken[0].Len(), 24)
		same(t, "length of number 1", b.taken[1].Len(), 24)
	}
}

// P13.1: what New answers has done nothing, and what is refused does nothing.
func TestNewDoesNothing(t *testing.T) {
	for _, groups := range sizes() {
		b := newBoth(t, "nothing is done", groups, groups, 0, of(0, 7*groups, 0x5555), of(0, groups, 0x5555))
		refused(t, api.ErrRange, b.old, 0, 0)
		refused(t, api.ErrRange, b.old, groups, 16)
		b.hold("what was refused")
		b.holdAll("what was refused")
	}
}

// P13.1: Left, Ready, Len and Groups ahead of the first Step, between, and behind the last one, what each Step counts, and a Take and a Least ahead of each.
func TestStepByStep(t *testing.T) {
	for _, oldGroups := range sizes() {
		for _, groups := range sizes() {
			for _, depth := range []int{-1, 0, 15} {
				put := hashings()[5].entries(0, 3*min(oldGroups, groups))
				b := newBoth(t, text(oldGroups)+" into "+text(groups)+", depth "+text(depth), oldGroups, groups, depth, put, nil)
				fresh := groups
				if depth >= 0 {
					fresh = 2 * groups
				}
				for n := range oldGroups + fresh {
					same(t, b.at("Left"), b.x.Left(), oldGroups+fresh-n)
					same(t, b.at("Ready"), b.x.Ready(), n >= fresh)
					same(t, b.at("whether the tables are taken"), b.take(), false)
					b.step()
				}
				same(t, "Left", b.x.Left(), 0)
				for range 3 {
					b.step()
				}
				same(t, "all units", b.counts.Units, oldGroups+fresh)
				same(t, "whether the tables are taken", b.take(), true)
				for range 2 {
					b.step()
					same(t, "whether the tables are taken twice", b.take(), false)
				}
			}
		}
	}
}

// P13.1: which groups are prepared can't be asked of tables that aren't ready; so the builds that the dual holds are asked.
func TestPreparedInOrder(t *testing.T) {
	for _, groups := range sizes() {
		d, err := New(newTable(t, 2), groups, 3)
		sameError(t, "New", err, nil)
		same(t, "how many are made ready", len(d.builds), 2)
		for n := range 2*groups + 2 {
			same(t, "Left of number 0 behind "+text(n), d.builds[0].Left(), max(0, groups-n))
			same(t, "Left of number 1 behind "+text(n), d.builds[1].Left(), min(groups, max(0, 2*groups-n)))
			same(t, "Step", d.Step(&meter.Meter{}), true)
		}
	}
}

// P13.1: the old table isn't touched until the new ones are ready; then just the next group is moved.
func TestMovedInOrder(t *testing.T) {
	for _, groups := range sizes() {
		for _, depth := range []int{-1, 0} {
			var list []api.Entry
			for key := range uint64(5 * groups) {
				list = append(list, api.Entry{Key: key, Val: key * 3, Hash: key<<7 | key<<63})
			}
			b := newBoth(t, text(groups)+" groups, depth "+text(depth), groups, groups, depth, list, nil)
			for !b.x.Ready() {
				b.step()
				same(t, "the old table's length", b.old.Len(), 5*groups)
			}
			for g := range groups {
				for k := range groups {
					want := 5
					if k < g {
						want = 0
					}
					same(t, "entries of group "+text(k)+" ahead of the move of "+text(g), len(scan(t, b.old, k)), want)
				}
				b.step()
			}
			same(t, "the old table's length", b.old.Len(), 0)
		}
	}
}

// eachMoment hands a function a new dual of each moment: of each number of Steps, and behind Take.
func eachMoment(what string, begin func(what string) *both, f func(b *both)) {
	for n := 0; ; n++ {
		b := begin(what + ", behind " + text(n) + " Steps")
		for range min(n, b.first) {
			b.step()
		}
		if n > b.first {
			b.take()
			f(b)
			return
		}
		f(b)
	}
}

// P13.1: of keys of each group of the old table, of keys put ahead of that moment and at it, and of keys that aren't there: each call at each moment. (The moment when the new tables become ready is one of them, and so is that behind Take.)
func TestEachCallAtEachMoment(t *testing.T) {
	for _, c := range []struct{ oldGroups, groups, depth int }{{1, 2, -1}, {4, 8, -1}, {8, 8, -1}, {1, 1, 0}, {4, 4, 0}, {4, 2, 1}, {8, 8, 2}} {
		for _, h := range hashings() {
			n := 2 * min(c.oldGroups, c.groups)
			begin := func(what string) *both {
				b := newBoth(t, what, c.oldGroups, c.groups, c.depth, h.entries(0, n), h.entries(n-1, n))
				b.put(h.entry(uint64(n+1), 1), true)
				return b
			}
			eachMoment(h.name+", "+text(c.oldGroups)+" into "+text(c.groups), begin, func(b *both) {
				b.put(h.entry(uint64(n+2), 2), true)
				keys := []uint64{uint64(n + 1), uint64(n + 2), uint64(n + 3), greatest}
				for key := range n {
					keys = append(keys, uint64(key))
				}
				for round, key := range keys {
					b.find(key, h.of(key))
					b.put(h.entry(key, key+1000), round%2 == 0)
					b.find(key, h.of(key))
					b.put(h.entry(key, key+2000), round%2 > 0)
					b.holdAll("Put")
					b.remove(key, h.of(key))
					b.remove(key, h.of(key))
					b.find(key, h.of(key))
					b.put(h.entry(key, key+3000), false)
					b.holdAll("Delete")
					b.put(h.entry(key, key+4000), true)
				}
				b.holdAll("all calls")
			})
		}
	}
}

// P13.1: what a search looks at, told in numbers: full groups of the target, and then of the old table; a key that is found in its target isn't looked for in the old table.
func TestWhatIsLookedAt(t *testing.T) {
	m := &meter.Meter{}
	looks := func(f func(l meter.Lens)) int {
		m.Reset()
		f(m.Probing())
		return m.Last().Probes
	}
	// 20 keys of one hash stand in three groups of each table.
	b := newBoth(t, "looks", 4, 4, -1, of(0, 20, 0), nil)
	same(t, "Find in the old table's third group", looks(func(l meter.Lens) { b.x.Find(l, 19, 0) }), 3)
	same(t, "Find of none", looks(func(l meter.Lens) { b.x.Find(l, 50, 0) }), 3)
	for range 4 {
		b.step()
	}
	same(t, "Ready", b.x.Ready(), true)
	same(t, "Find in the old table's third group", looks(func(l meter.Lens) { b.x.Find(l, 19, 0) }), 4)
	same(t, "Find of none", looks(func(l meter.Lens) { b.x.Find(l, 50, 0) }), 4)
	same(t, "Put of a new key", looks(func(l meter.Lens) { b.x.Put(l, of(50, 51, 0)[0], true) }), 4)
	same(t, "Find in the target", looks(func(l meter.Lens) { b.x.Find(l, 50, 0) }), 1)
	same(t, "Put in the target", looks(func(l meter.Lens) { b.x.Put(l, of(50, 51, 0)[0], true) }), 1)
	same(t, "Put in the old table's second group", looks(func(l meter.Lens) { b.x.Put(l, of(10, 11, 0)[0], true) }), 3)
	same(t, "Put that is refused", looks(func(l meter.Lens) { b.x.Put(l, of(51, 52, 0)[0], false) }), 4)
	same(t, "Delete in the target", looks(func(l meter.Lens) { b.x.Delete(l, 50, 0) }), 1)
	same(t, "Delete of none", looks(func(l meter.Lens) { b.x.Delete(l, 50, 0) }), 4)
	same(t, "Delete in the old table's first group", looks(func(l meter.Lens) { b.x.Delete(l, 0, 0) }), 2)
	same(t, "Put of it", looks(func(l meter.Lens) { b.x.Put(l, of(0, 1, 0)[0], true) }), 4)
	same(t, "Least", looks(func(l meter.Lens) { b.x.Least(l, 0, 0) }), 8)
	same(t, "nothing is counted elsewhere", m.All().Visits+m.All().Units, 0)
	for range 4 {
		b.x.Step(b.m[0])
	}
	// Of the old table the first groups are all deleted now, so that a search still passes them.
	sameList(t, "the old table's text", b.old.Text(), []string{"xxxxxxxx", "xxxxxxxx", "........", "........"})
	same(t, "Find in the target's first group", looks(func(l meter.Lens) { b.x.Find(l, 0, 0) }), 1)
	same(t, "Find of none, in all of both", looks(func(l meter.Lens) { b.x.Find(l, 50, 0) }), 3+3)
	_, err := b.x.Take()
	sameError(t, "Take", err, nil)
	same(t, "Find of none behind Take", looks(func(l meter.Lens) { b.x.Find(l, 50, 0) }), 3+3)
	same(t, "Least behind Take", looks(func(l meter.Lens) { b.x.Least(l, 0, 0) }), 8)
}

// P13.1: a key that is there stays where it is, also where more isn't so and where nothing is left of any table.
func TestPutOfAKeyThatIsThere(t *testing.T) {
	for _, depth := range []int{-1, 0} {
		for _, more := range []bool{false, true} {
			b := newBoth(t, "a key that is there", 2, 2, depth, append(of(0, 7, 0), of(7, 14, 1<<7)...), nil)
			same(t, "what is left of the old table", b.old.Left(), 0)
			for b.x.Left() > 0 {
				if b.x.Ready() && len(b.plain) == 14 {
					b.fillUp(depth, more)
				}
				for _, e := range slices.SortedFunc(maps.Values(b.plain), inOrder) {
					e.Val += 5
					sameError(t, "Put", b.put(e, more), nil)
				}
				b.holdAll("Put")
				if b.step() {
					break // nothing is left of the target
				}
			}
		}
	}
}

// fillUp fills a target, into which nothing was moved so far, up.
func (b *both) fillUp(depth int, more bool) {
	b.t.Helper()
	for n := range 14 {
		e := api.Entry{Key: uint64(1000 + n), Hash: 3 << 7}
		if !more {
			sameError(b.t, "Put", b.put(e, false), api.ErrFull)
		}
		sameError(b.t, "Put", b.put(e, true), nil)
	}
	sameError(b.t, "Put", b.put(api.Entry{Key: 2000, Hash: 0}, true), api.ErrFull)
	if depth >= 0 {
		sameError(b.t, "Put into the other one", b.put(api.Entry{Key: 2001, Hash: 1 << 63}, true), nil)
	}
}

// P13.1: the old table's room is asked as long as the new ones aren't ready, and then that of the target alone.
func TestPutWhereNothingIsLeft(t *testing.T) {
	for _, groups := range sizes() {
		b := newBoth(t, "a full old table", groups, groups, 0, of(0, 7*groups, 0), nil)
		one, other := api.Entry{Key: 1000, Hash: 5}, api.Entry{Key: 1001, Hash: 1<<63 | 5}
		for !b.x.Ready() {
			for _, more := range []bool{false, true} {
				sameError(t, "Put", b.put(one, more), api.ErrFull)
				sameError(t, "Put", b.put(other, more), api.ErrFull)
			}
			b.holdAll("Put")
			b.step()
		}
		for _, e := range []api.Entry{one, other} {
			sameError(t, "Put", b.put(e, false), api.ErrFull)
			sameError(t, "Put", b.put(e, true), nil)
		}
		// The target of the old table's keys lacks one place now.
		panics := 0
		for range groups {
			if b.step() {
				panics++
			}
		}
		same(t, "Steps that panicked", panics, 1)
		for _, more := range []bool{false, true} {
			sameError(t, "Put into the full target", b.put(api.Entry{Key: 1002, Hash: 5}, more), api.ErrFull)
		}
		sameError(t, "Put into the other one", b.put(api.Entry{Key: 1003, Hash: 1 << 63}, true), nil)
		b.remove(1000, 5)
		b.holdAll("Delete")
	}
}

// P13.1: deleted slots are no room, if nothing is left; of the table where a key would stand alone.
func TestPutAmongDeletedSlots(t *testing.T) {
	b := newBoth(t, "deleted slots", 2, 2, -1, of(0, 14, 0), of(0, 8, 0))
	sameList(t, "the old table's text", b.old.Text(), []string{"xxxxxxxx", "######.."})
	sameError(t, "Put", b.put(of(50, 51, 0)[0], true), api.ErrFull)
	b.remove(8, 0)
	sameError(t, "Put", b.put(of(50, 51, 0)[0], true), nil)
	sameList(t, "the old table's text", b.old.Text(), []string{"#xxxxxxx", ".#####.."})
	b.toTheEnd()
}

// P13.2: what a Step that panics leaves behind is the partial function still, and the Steps go on when there is room.
func TestAStepThatPanics(t *testing.T) {
	for _, depth := range []int{-1, 0} {
		for extra := 1; extra < 8; extra++ {
			b := newBoth(t, text(extra)+" too many", 2, 1, depth, of(0, 7, 1<<7), nil)
			for !b.x.Ready() {
				b.step()
			}
			for n := range extra {
				sameError(t, "Put", b.put(api.Entry{Key: uint64(100 + n)}, true), nil)
			}
			b.step()
			for range 3 {
				same(t, "whether it panicked", b.step(), true)
				same(t, "Left", b.x.Left(), 1)
				same(t, "the old table's length", b.old.Len(), extra)
				b.holdAll("a Step that panicked")
				b.take()
			}
			for n := range extra {
				b.remove(uint64(100+n), 0)
			}
			b.toTheEnd()
		}
	}
}

// P13.1: Least ahead of, in and behind all entries, at each moment; of entries of one hash, and of hashes whose least one is in the old table, or in either of the new ones.
func TestLeastAtEachMoment(t *testing.T) {
	list := []api.Entry{
		{Key: 5, Hash: 0}, {Key: 0, Hash: 3}, {Key: 7, Hash: 3}, {Key: greatest, Hash: 3}, {Key: 1, Hash: 1 << 7},
		{Key: 2, Hash: 1<<63 - 1}, {Key: 3, Hash: 1 << 63}, {Key: 4, Hash: 1<<63 | 1<<7}, {Key: greatest - 1, Hash: greatest}, {Key: 6, Hash: greatest},
	}
	for _, depth := range []int{-1, 0, 1, 15} {
		begin := func(what string) *both {
			return newBoth(t, what, 2, 4, depth, list, nil)
		}
		eachMoment("Least, depth "+text(depth), begin, func(b *both) {
			for _, e := range list {
				for _, hash := range []uint64{e.Hash - 1, e.Hash, e.Hash + 1} {
					for _, key := range []uint64{0, e.Key - 1, e.Key, e.Key + 1, greatest} {
						b.least(hash, key)
					}
				}
			}
			b.remove(6, greatest)
			b.remove(5, 0)
			b.put(api.Entry{Key: 9, Hash: 1}, true)
			b.least(0, 0)
			b.least(greatest, 0)
			b.least(greatest, greatest)
		})
		eachMoment("Least of none, depth "+text(depth), func(what string) *both {
			return newBoth(t, what, 2, 2, depth, nil, nil)
		}, func(b *both) {
			b.least(0, 0)
			b.least(greatest, greatest)
		})
	}
}

// P13.1: of each new table the least entry is held against those of all others.
func TestLeastOfEachTable(t *testing.T) {
	for _, order := range [][]int{{0, 1, 2}, {0, 2, 1}, {1, 0, 2}, {1, 2, 0}, {2, 0, 1}, {2, 1, 0}} {
		b := newBoth(t, "Least", 1, 1, 15, nil, nil)
		b.step()
		// Depth 15 lets a hash have any place in the order in either new table.
		hash := func(place int, bit uint64) uint64 { return uint64(place+1)<<60 | bit<<48 }
		inOld := api.Entry{Key: 1, Hash: hash(order[0], 0)}
		b.put(inOld, true)
		b.step()
		b.put(api.Entry{Key: 2, Hash: hash(order[1], 0)}, true)
		b.put(api.Entry{Key: 3, Hash: hash(order[2], 1)}, true)
		for range 3 {
			e, is := b.x.Least(meter.Lens{}, 0, 0)
			same(t, "whether there is one", is, true)
			same(t, "Least", e.Hash>>60, uint64(4-len(b.plain)))
			b.remove(e.Key, e.Hash)
		}
	}
}

// P13.1: the list that Take answers is the caller's; the tables are those that are meant, which the dual still asks.
func TestWhatIsTakenIsTheCallers(t *testing.T) {
	for _, depth := range []int{-1, 0} {
		b := newBoth(t, "taken", 2, 2, depth, append(of(0, 4, 0), of(4, 8, 1<<63)...), nil)
		for b.x.Left() > 0 {
			b.step()
		}
		list, err := b.x.Take()
		sameError(t, "Take", err, nil)
		b.taken = slices.Clone(list)
		all := list[:cap(list)]
		for i := range all {
			all[i] = newTable(t, 1)
		}
		b.hold("writing over it")
		b.holdAll("writing over it")
		b.put(api.Entry{Key: 100, Val: 1, Hash: 0}, true)
		b.put(api.Entry{Key: 101, Val: 1, Hash: greatest}, true)
		b.remove(3, 0)
		b.least(0, 0)
		b.holdAll("Put")
		e, is := b.taken[0].Find(meter.Lens{}, 100, 0)
		same(t, "what the taken table has", e, api.Entry{Key: 100, Val: 1})
		same(t, "what the taken table has", is, true)
	}
}

// P13.1: a Take that is refused, as often as may be, takes nothing away.
func TestTakeTooEarly(t *testing.T) {
	for _, groups := range sizes() {
		for _, depth := range []int{-1, 4} {
			b := newBoth(t, "too early", groups, groups, depth, of(0, groups, 0), nil)
			for b.x.Left() > 0 {
				for range 3 {
					same(t, "whether the tables are taken", b.take(), false)
				}
				b.step()
			}
			same(t, "whether the tables are taken", b.take(), true)
			for range 3 {
				same(t, "whether the tables are taken twice", b.take(), false)
			}
		}
	}
}

// P13.1: a meter may have counted before, and isn't reset.
func TestAMeterThatHasCounted(t *testing.T) {
	b := newBoth(t, "a meter", 1, 1, 0, append(of(0, 3, 0), of(3, 5, 1<<63)...), nil)
	m := &meter.Meter{}
	m.Unit(5)
	m.Probing().Visit()
	same(t, "Step", b.x.Step(m), true)
	same(t, "last", m.Last(), meter.Counts{Probes: 1, Visits: 1, Units: 6})
	same(t, "Step", b.x.Step(m), true)
	m.Reset()
	same(t, "Step", b.x.Step(m), true)
	same(t, "last", m.Last(), meter.Counts{Visits: 6, Units: 1})
	same(t, "all", m.All(), meter.Counts{Probes: 1, Visits: 8, Units: 8})
	same(t, "Step", b.x.Step(m), false)
	b.x.Find(m.Probing(), 0, 0)
	b.x.Find(m.Working(), 9, 0)
	same(t, "all", m.All(), meter.Counts{Probes: 2, Visits: 10, Units: 8})
}

// P13.1: a Step that would pass the meter's limit raises ErrLimit, as layers 11 and 12 do, and does nothing; the Steps go on when the limit lets them.
func TestAMeterWithALimit(t *testing.T) {
	for _, c := range []struct{ groups, depth int }{{1, -1}, {4, -1}, {1, 0}, {4, 0}, {8, 2}} {
		first := newBoth(t, "a limit", c.groups, c.groups, c.depth, nil, nil).first
		for limit := range first {
			b, m := newBoth(t, "a limit", c.groups, c.groups, c.depth, of(0, 7*c.groups, 0), nil), &meter.Meter{}
			m.Limit(limit)
			for range limit {
				same(t, "Step", b.x.Step(m), true)
				b.s.step()
				b.steps++
			}
			before := m.All()
			for range 2 {
				sameError(t, "Step", trap.Catch(func() { b.x.Step(m) }), api.ErrLimit)
				same(t, "counted", m.All(), before)
				b.hold("the limit")
				b.holdAll("the limit")
			}
			m.Limit(limit + 1)
			same(t, "Step", b.x.Step(m), true)
			b.s.step()
			b.steps++
			b.toTheEnd()
			same(t, "Step", b.x.Step(m), false)
		}
	}
}

// P13.2: all sizes, one new table and two, hostile hashes, and an old table that had deleted slots before; each moved from its first group to its last one, without writes, and with Puts and Deletes between the Steps.
func TestAllIsMoved(t *testing.T) {
	next := some()
	tombs, writes := 0, 0
	for _, groups := range sizes() {
		for _, h := range hashings() {
			for depth := -1; depth < 16; depth += 1 + groups/2 {
				put := h.entries(0, 4*groups)
				var gone []api.Entry
				for _, e := range put {
					if next(4) == 0 {
						gone = append(gone, e)
					}
				}
				what := h.name + ", " + text(groups) + " groups, depth " + text(depth)
				calm := newBoth(t, what, groups, groups, depth, put, gone)
				tombs += calm.old.Tombs()
				calm.toTheEnd()
				b := newBoth(t, what+", with writes", groups, groups, depth, put, gone)
				for b.x.Left() > 0 {
					key := uint64(next(6 * groups))
					if next(3) == 0 {
						b.remove(key, h.of(key))
					} else if b.put(h.entry(key, uint64(next(99))), b.x.Len() < 4*groups) == nil {
						writes++
					}
					b.holdAll("a write")
					same(t, what+", whether a Step panicked", b.step(), false)
					b.holdAll("a Step")
				}
				b.toTheEnd()
			}
		}
	}
	if tombs < 300 || writes < 1000 {
		t.Fatalf("too little was seen: %d deleted slots, %d writes", tombs, writes)
	}
}

// P13.1: all orders of a few calls, from the beginning and from the moments around that when the new tables are ready.
func TestAllShortOrders(t *testing.T) {
	calls := []func(b *both){
		func(b *both) { b.step() },
		func(b *both) { b.put(api.Entry{Key: 1, Val: uint64(b.turn), Hash: 0}, true) },
		func(b *both) { b.put(api.Entry{Key: 20, Val: uint64(b.turn), Hash: greatest}, b.turn > 0) },
		func(b *both) { b.remove(1, 0) },
		func(b *both) { b.remove(20, greatest) },
		func(b *both) { b.find(1, 0) },
		func(b *both) { b.least(0, 2) },
		func(b *both) { b.take() },
	}
	const long = 4
	orders := 1
	for range long {
		orders *= len(calls)
	}
	taken := 0
	for order := range orders {
		for ahead := range 4 {
			b := newBoth(t, "order "+text(order)+" behind "+text(ahead), 1, 1, 0, append(of(0, 3, 0), of(19, 21, greatest)...), nil)
			for range ahead {
				b.step()
			}
			left := order
			for range long {
				calls[left%len(calls)](b)
				left /= len(calls)
			}
			b.holdAll("the order")
			if b.taken != nil {
				taken++
			}
		}
	}
	if taken < 1000 {
		t.Fatalf("too little was seen: %d were taken", taken)
	}
}

// P13.1, P13.2: long orders of all calls, over all sizes of both generations, also where the new tables have too little room.
func TestLongOrders(t *testing.T) {
	next := some()
	panics, taken, full := 0, 0, 0
	for _, groups := range sizes() {
		for _, h := range hashings() {
			for range 10 / (1 + groups/16) {
				oldGroups := sizes()[next(7)]
				put := h.entries(0, next(7*oldGroups+1))
				b := newBoth(t, h.name+", "+text(oldGroups)+" into "+text(groups)+", a long order", oldGroups, groups, next(17)-1, put, nil)
				for range 2*b.first + 20 {
					e := h.entry(uint64(next(9*oldGroups)), uint64(next(99)))
					switch next(10) {
					case 0:
						b.find(e.Key, e.Hash)
					case 1:
						b.remove(e.Key, e.Hash)
					case 2, 3:
						if b.put(e, next(4) > 0) != nil {
							full++
						}
					case 4:
						b.least(e.Hash, e.Key)
						b.take()
					default:
						if b.step() {
							panics++
						}
					}
				}
				b.holdAll("a long order")
				if b.taken != nil {
					taken++
				}
			}
		}
	}
	if panics < 300 || taken < 40 || full < 1000 {
		t.Fatalf("too little was seen: %d panics, %d taken, %d full", panics, taken, full)
	}
}

// P13.1: several duals, stepped in turns, have each its own tables.
func TestSeveralDuals(t *testing.T) {
	for _, groups := range sizes() {
		one := newBoth(t, "the one", groups, groups, 0, of(0, 3*groups, 0), nil)
		other := newBoth(t, "the other", groups, groups, -1, of(0, 2*groups, 1), nil)
		for one.x.Left() > 0 {
			one.step()
			one.put(api.Entry{Key: 1000, Val: uint64(one.x.Left())}, true)
			other.hold("the one's Step")
			other.step()
			other.remove(uint64(other.x.Left()), 1)
			one.hold("the other's Step")
		}
		one.take()
		other.toTheEnd()
		one.holdAll("the other's end")
	}
}

// P13.1: the old table that was handed in is the one that is asked, as long as something is in it.
func TestTheOldTableIsNoCopy(t *testing.T) {
	old := newTable(t, 1)
	d, err := New(old, 1, -1)
	sameError(t, "New", err, nil)
	for n := range uint64(3) {
		is, err := d.Put(meter.Lens{}, api.Entry{Key: n, Val: n, Hash: n}, true)
		sameError(t, "Put", err, nil)
		same(t, "Put", is, true)
	}
	same(t, "the old table's length", old.Len(), 3)
	d.Step(&meter.Meter{})
	d.Put(meter.Lens{}, api.Entry{Key: 1, Val: 9, Hash: 1}, false)
	e, _ := old.Find(meter.Lens{}, 1, 1)
	same(t, "the old table's entry", e, api.Entry{Key: 1, Val: 9, Hash: 1})
	d.Step(&meter.Meter{})
	same(t, "the old table's length", old.Len(), 0)
	same(t, "Len", d.Len(), 3)
}
