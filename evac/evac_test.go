package evac

import (
	"cmp"
	"errors"
	"math"
	"slices"
	"strconv"
	"testing"

	"ambler/api"
	"ambler/meter"
	"ambler/sound"
	"ambler/table"
	"ambler/trap"
)

// The tests hold each call against a slow evacuation: slow tables that are lists of groups of eight slots each, gone through one by one, with no layer below, between which entries are moved one by one. A hash's bit is read off its 64 figures.

const (
	lanes    = 8
	greatest = math.MaxUint64
)

type slot struct {
	sign byte // '.', 'x' or '#'
	e    api.Entry
}

// slow is a table as a list of slots.
type slow struct {
	groups [][lanes]slot
}

func newSlow(groups int) *slow {
	s := &slow{groups: make([][lanes]slot, groups)}
	for g := range s.groups {
		for i := range lanes {
			s.groups[g][i] = slot{sign: '.'}
		}
	}
	return s
}

func (s *slow) count(sign byte) int {
	n := 0
	for _, g := range s.groups {
		for _, each := range g {
			if each.sign == sign {
				n++
			}
		}
	}
	return n
}

func (s *slow) left() int { return 7*len(s.groups) - s.count('#') - s.count('x') }

// walk adds 1, 2, 3 .. one by one.
func (s *slow) walk(hash uint64) []int {
	n := uint64(len(s.groups))
	place := hash / 128 % n
	var places []int
	for i := range n {
		place = (place + i) % n
		places = append(places, int(place))
	}
	return places
}

func (s *slow) isOpen(g int) bool {
	for _, each := range s.groups[g] {
		if each.sign == '.' {
			return true
		}
	}
	return false
}

// seek is the place of a key, and how many groups are looked at for it; of a key that isn't there the slot is -1.
func (s *slow) seek(key, hash uint64) (g, i, looks int) {
	for n, g := range s.walk(hash) {
		for i, each := range s.groups[g] {
			if each.sign == '#' && each.e.Key == key {
				return g, i, n + 1
			}
		}
		if s.isOpen(g) {
			return 0, -1, n + 1
		}
	}
	return 0, -1, len(s.groups)
}

func (s *slow) has(key uint64) bool {
	for g := range s.groups {
		for _, e := range s.entries(g) {
			if e.Key == key {
				return true
			}
		}
	}
	return false
}

// put tells whether the key is new, and whether there was room.
func (s *slow) put(e api.Entry) (isNew, roomy bool) {
	if g, i, _ := s.seek(e.Key, e.Hash); i >= 0 {
		s.groups[g][i].e.Val = e.Val
		return false, true
	}
	if s.left() == 0 {
		return false, false
	}
	for _, g := range s.walk(e.Hash) {
		for i, each := range s.groups[g] {
			if each.sign != '#' {
				s.groups[g][i] = slot{'#', e}
				return true, true
			}
		}
	}
	panic("something is left, and no slot is free")
}

func (s *slow) erase(g, i int) {
	sign := byte('x')
	for k, each := range s.groups[g] {
		if k != i && each.sign == '.' {
			sign = '.'
		}
	}
	s.groups[g][i] = slot{sign: sign}
}

func (s *slow) remove(key, hash uint64) bool {
	g, i, _ := s.seek(key, hash)
	if i >= 0 {
		s.erase(g, i)
	}
	return i >= 0
}

func (s *slow) entries(g int) []api.Entry {
	var list []api.Entry
	for _, each := range s.groups[g] {
		if each.sign == '#' {
			list = append(list, each.e)
		}
	}
	return list
}

func (s *slow) take(g int) []api.Entry {
	list := s.entries(g)
	for i := range lanes {
		if s.groups[g][i].sign == '#' {
			s.erase(g, i)
		}
	}
	return list
}

func (s *slow) text() []string {
	var list []string
	for _, g := range s.groups {
		var signs [lanes]byte
		for i, each := range g {
			signs[i] = each.sign
		}
		list = append(list, string(signs[:]))
	}
	return list
}

// pair is a table and a slow one, each of which is given what the other is.
type pair struct {
	t *testing.T
	x *table.Table
	s *slow
}

func newPair(t *testing.T, groups int) *pair {
	t.Helper()
	x, err := table.New(groups)
	sameError(t, "a table", err, nil)
	return &pair{t, x, newSlow(groups)}
}

// put wants a table that has room, or the key.
func (p *pair) put(list ...api.Entry) *pair {
	p.t.Helper()
	for _, e := range list {
		isNew, err := p.x.Put(meter.Lens{}, e)
		sameError(p.t, "Put", err, nil)
		want, _ := p.s.put(e)
		same(p.t, "Put", isNew, want)
	}
	return p
}

func (p *pair) remove(list ...api.Entry) *pair {
	p.t.Helper()
	for _, e := range list {
		_, is := p.x.Delete(meter.Lens{}, e.Key, e.Hash)
		same(p.t, "Delete", is, p.s.remove(e.Key, e.Hash))
	}
	return p
}

func (p *pair) take(g int) []api.Entry {
	p.t.Helper()
	list, err := p.x.Take(meter.Lens{}, g)
	sameError(p.t, "Take", err, nil)
	sameList(p.t, "Take", list, p.s.take(g))
	return list
}

func (p *pair) hold(what string) {
	p.t.Helper()
	same(p.t, what+", groups", p.x.Groups(), len(p.s.groups))
	same(p.t, what+", length", p.x.Len(), p.s.count('#'))
	same(p.t, what+", tombs", p.x.Tombs(), p.s.count('x'))
	same(p.t, what+", left", p.x.Left(), p.s.left())
	sameList(p.t, what+", text", p.x.Text(), p.s.text())
	for g := range p.s.groups {
		sameList(p.t, what+", group "+text(g), scan(p.t, p.x, g), p.s.entries(g))
	}
}

// soundly wants a key of always the same hash.
func (p *pair) soundly(what string) {
	p.t.Helper()
	sameError(p.t, what+", whether it is sound", sound.Check(p.x), nil)
}

func scan(t *testing.T, x *table.Table, g int) []api.Entry {
	t.Helper()
	list, err := x.Scan(meter.Lens{}, g)
	sameError(t, "Scan", err, nil)
	return list
}

// allOf is the entries of a table, in the order.
func allOf(t *testing.T, tables ...*table.Table) []api.Entry {
	t.Helper()
	var list []api.Entry
	for _, x := range tables {
		for g := range x.Groups() {
			list = append(list, scan(t, x, g)...)
		}
	}
	slices.SortFunc(list, inOrder)
	return list
}

func inOrder(a, b api.Entry) int {
	return cmp.Or(cmp.Compare(a.Hash, b.Hash), cmp.Compare(a.Key, b.Key))
}

// figure is one of the 64 figures of a hash, from the highest one on.
func figure(hash uint64, i int) int {
	for range 63 - i {
		hash /= 2
	}
	return int(hash % 2)
}

// both is an evacuation and a slow one, with two meters that are counted for in turns.
type both struct {
	t       *testing.T
	what    string
	x       *Evac
	old     *pair
	targets []*pair
	depth   int
	moved   int
	counts  meter.Counts // of both meters together
	m       [2]*meter.Meter
	turn    int
}

func newBoth(t *testing.T, what string, depth int, old *pair, targets ...*pair) *both {
	t.Helper()
	var tables []*table.Table
	for _, each := range targets {
		tables = append(tables, each.x)
	}
	x, err := New(old.x, depth, tables...)
	sameError(t, what+", New", err, nil)
	if x == nil {
		t.Fatal(what + ": no evacuation")
	}
	b := &both{t: t, what: what, x: x, old: old, targets: targets, depth: depth, m: [2]*meter.Meter{{}, {}}}
	b.hold("New")
	return b
}

func (b *both) target(hash uint64) *pair {
	if len(b.targets) == 1 {
		return b.targets[0]
	}
	return b.targets[figure(hash, b.depth)]
}

// slowStep is what a Step should do and count, and whether it should panic: then those that were placed have been looked for in the old table once more, and all others stay there.
func (b *both) slowStep() (is, broken bool, counts meter.Counts) {
	if b.moved == len(b.old.s.groups) {
		return false, false, meter.Counts{}
	}
	counts = meter.Counts{Visits: 1, Units: 1}
	list := b.old.s.entries(b.moved)
	for n, e := range list {
		to := b.target(e.Hash).s
		_, _, looks := to.seek(e.Key, e.Hash)
		counts.Visits += looks
		if to.has(e.Key) || to.left() == 0 {
			for _, placed := range list[:n] {
				_, _, looks := b.old.s.seek(placed.Key, placed.Hash)
				counts.Visits += looks
				b.old.s.remove(placed.Key, placed.Hash)
			}
			return true, true, counts
		}
		to.put(e)
	}
	b.old.s.take(b.moved)
	b.moved++
	return true, false, counts
}

// step tells whether it panicked.
func (b *both) step() bool {
	b.t.Helper()
	b.turn = 1 - b.turn
	m, other := b.m[b.turn], b.m[1-b.turn].All()
	m.Reset()
	what := b.what + ", Step behind " + text(b.moved)
	is, broken, counts := b.slowStep()
	got := false
	panicked := panicOf(func() { got = b.x.Step(m) })
	if broken {
		same(b.t, what+", its panic", panicked, panicOf(func() { trap.Raise(api.ErrBroken) }))
	} else {
		same(b.t, what+", its panic", panicked, nil)
		same(b.t, what, got, is)
	}
	b.counts = b.counts.Plus(counts)
	same(b.t, what+", what it counts", m.Last(), counts)
	same(b.t, what+", what it counts for another meter", b.m[1-b.turn].All(), other)
	b.hold("Step")
	return broken
}

// panicOf is what f panics with: Catch answers ErrBroken of what was raised and of any other panic, too.
func panicOf(f func()) (with any) {
	defer func() { with = recover() }()
	f()
	return nil
}

// hold asks all that doesn't change anything, twice, so that what asking would change is seen, too.
func (b *both) hold(behind string) {
	b.t.Helper()
	what := b.what + ", behind " + behind
	for range 2 {
		same(b.t, what+", Left", b.x.Left(), len(b.old.s.groups)-b.moved)
		for _, hash := range []uint64{0, greatest, 1 << 63, 1 << 62, 1 << 48, 0xAAAAAAAAAAAAAAAA} {
			same(b.t, what+", Target", b.x.Target(hash) == b.target(hash).x, true)
		}
	}
	b.old.hold(what + ", the old table")
	for n, each := range b.targets {
		each.hold(what + ", target " + text(n))
	}
	same(b.t, what+", all counts", b.m[0].All().Plus(b.m[1].All()), b.counts)
}

func (b *both) tables() []*table.Table {
	list := []*table.Table{b.old.x}
	for _, each := range b.targets {
		list = append(list, each.x)
	}
	return list
}

// toTheEnd steps until no group is left, and holds each promise of P12.2 behind every single Step.
func (b *both) toTheEnd() {
	b.t.Helper()
	all := allOf(b.t, b.tables()...)
	for n := b.x.Left(); n > 0; n-- {
		same(b.t, b.what+", whether a Step panicked", b.step(), false)
		eachOnce(b.t, b.what, all, b.tables())
		same(b.t, b.what+", Left", b.x.Left(), n-1)
	}
	same(b.t, b.what+", the old table's length", b.old.x.Len(), 0)
	sameList(b.t, b.what+", the targets' entries", allOf(b.t, b.tables()[1:]...), all)
	for n, each := range b.targets {
		each.soundly(b.what + ", target " + text(n))
		for _, e := range allOf(b.t, each.x) {
			same(b.t, b.what+", whether an entry stands in its target", each.x == b.x.Target(e.Hash), true)
		}
	}
}

// eachOnce asks by the tables' own searches, too, and not only group by group.
func eachOnce(t *testing.T, what string, all []api.Entry, tables []*table.Table) {
	t.Helper()
	sameList(t, what+", all entries", allOf(t, tables...), all)
	for _, e := range all {
		times := 0
		for _, x := range tables {
			if found, is := x.Find(meter.Lens{}, e.Key, e.Hash); is {
				same(t, what+", an entry", found, e)
				times++
			}
		}
		same(t, what+", in how many tables an entry is", times, 1)
	}
}

func text(n int) string { return strconv.Itoa(n) }

func same[T comparable](t *testing.T, what string, got, want T) {
	t.Helper()
	if got != want {
		t.Fatalf("%s: %v, not %v", what, got, want)
	}
}

func sameList[T comparable](t *testing.T, what string, got, want []T) {
	t.Helper()
	if !slices.Equal(got, want) {
		t.Fatalf("%s: %v, not %v", what, got, want)
	}
}

// sameError asks by ==, not by errors.Is alone: the promise is that error, not one around it.
func sameError(t *testing.T, what string, got, want error) {
	t.Helper()
	if got == nil || want == nil {
		if got != nil || want != nil {
			t.Fatalf("%s: %v, not %v", what, got, want)
		}
		return
	}
	if got != want || !errors.Is(got, want) {
		t.Fatalf("%s: %v, not %v", what, got, want)
	}
}

// sizes are all numbers of groups that a table may have.
func sizes() []int { return []int{1, 2, 4, 8, 16, 32, 64} }

// hashing tells the hash of each key, always the same one.
type hashing struct {
	name string
	of   func(key uint64) uint64
}

// hashings gives hostile ones, too: one hash for all keys, one walk, one lower part, or one target for all.
func hashings() []hashing {
	return []hashing{
		{"one hash", func(uint64) uint64 { return 0x0123456789ABCDEF }},
		{"no hash", func(uint64) uint64 { return 0 }},
		{"the greatest hash", func(uint64) uint64 { return greatest }},
		{"one walk", func(key uint64) uint64 { return key<<48 | 5<<7 | key%128 }},
		{"one lower part", func(key uint64) uint64 { return key<<7 | key<<60 | 0x2A }},
		{"two hashes", func(key uint64) uint64 { return -(key % 2) }},
		{"the key", func(key uint64) uint64 { return key }},
		{"spread", func(key uint64) uint64 { return (key + 1) * 0x9E3779B97F4A7C15 }},
	}
}

func (h hashing) entry(key, val uint64) api.Entry {
	return api.Entry{Key: key, Val: val, Hash: h.of(key)}
}

// some gives numbers without a pattern.
func some() func(below int) int {
	x := uint64(88172645463325252)
	return func(below int) int {
		x ^= x << 13
		x ^= x >> 7
		x ^= x << 17
		return int(x >> 11 % uint64(below))
	}
}

// of gives entries of so many keys in a row, all with one hash.
func of(from, to, hash uint64) []api.Entry {
	var list []api.Entry
	for key := from; key < to; key++ {
		list = append(list, api.Entry{Key: key, Val: key + 100, Hash: hash})
	}
	return list
}

// depths are far below to far above those that there may be.
func depths() []int {
	list := []int{math.MinInt, math.MinInt + 1, math.MinInt32, -1 << 16, 1 << 16, math.MaxInt32, 1 << 32, 1<<32 + 1, 1 << 62, math.MaxInt - 1, math.MaxInt}
	for depth := -300; depth <= 300; depth++ {
		list = append(list, depth)
	}
	return list
}

// refused holds that an error comes alone, and that no table was touched.
func refused(t *testing.T, what string, want error, old *table.Table, depth int, targets ...*table.Table) {
	t.Helper()
	before := slices.Clone(targets)
	v, err := New(old, depth, targets...)
	sameError(t, what, err, want)
	same(t, what+", the evacuation", v, nil)
	sameList(t, what+", the list that was handed in", targets, before)
}

// P12.1
func TestTheExample(t *testing.T) {
	old, target := newPair(t, 1).put(of(1, 3, 7)...), newPair(t, 2)
	b := newBoth(t, "the example", 0, old, target)
	same(t, "Left", b.x.Left(), 1)
	b.step()
	same(t, "Left", b.x.Left(), 0)
	same(t, "counted", b.m[1].All(), meter.Counts{Visits: 3, Units: 1})
	sameList(t, "the target's entries", allOf(t, target.x), of(1, 3, 7))
	same(t, "the old table's length", old.x.Len(), 0)
}

// P12.1: nil is told ahead of what else is wrong.
func TestNewOfNil(t *testing.T) {
	x, y := newPair(t, 1).x, newPair(t, 2).x
	for _, depth := range []int{math.MinInt, -1, 0, 3, 15, 16, math.MaxInt} {
		for n, targets := range [][]*table.Table{{}, {x}, {y, x}, {y, x, y}, {nil}, {nil, nil}, {y, nil}, {nil, nil, nil, nil}} {
			refused(t, "a nil old table, targets "+text(n)+", depth "+text(depth), api.ErrNone, nil, depth, targets...)
		}
		for n, targets := range [][]*table.Table{{nil}, {nil, x}, {x, nil}, {nil, nil}, {nil, x, x}, {x, nil, x}, {x, x, nil}, {x, x, x, x, nil}} {
			refused(t, "a nil target, targets "+text(n)+", depth "+text(depth), api.ErrNone, y, depth, targets...)
		}
	}
}

// P12.1
func TestNewOfEachNumberOfTargets(t *testing.T) {
	old := newPair(t, 4)
	for _, depth := range []int{math.MinInt, -1, 0, 7, 15, 16, math.MaxInt} {
		for n := range 40 {
			var targets []*table.Table
			for range n {
				targets = append(targets, newPair(t, 1).x)
			}
			if n != 1 && n != 2 {
				refused(t, text(n)+" targets, depth "+text(depth), api.ErrRange, old.x, depth, targets...)
			}
		}
	}
}

// P12.1: of two targets the depths from 0 to 15 alone; of one each depth, which then doesn't matter.
func TestNewOfEachDepth(t *testing.T) {
	one, other := newPair(t, 1), newPair(t, 2)
	rights := 0
	for _, depth := range depths() {
		newBoth(t, "one target, depth "+text(depth), depth, newPair(t, 2), one)
		if 0 <= depth && depth <= 15 {
			rights++
			newBoth(t, "two targets, depth "+text(depth), depth, newPair(t, 2), one, other)
			continue
		}
		refused(t, "two targets, depth "+text(depth), api.ErrRange, newPair(t, 2).x, depth, one.x, other.x)
	}
	same(t, "depths that there may be", rights, 16)
}

// P12.1: New looks at no group, and moves nothing.
func TestNewMovesNothing(t *testing.T) {
	for _, groups := range sizes() {
		old := newPair(t, groups).put(of(0, uint64(7*groups), 0x5555)...)
		one, other := newPair(t, groups).put(of(900, 903, 1)...), newPair(t, groups).put(of(903, 904, 1<<63)...)
		b := newBoth(t, "nothing is moved", 0, old, one, other)
		same(t, "Left", b.x.Left(), groups)
		same(t, "the old table's length", old.x.Len(), 7*groups)
		newBoth(t, "nothing is moved", 0, old, one)
		refused(t, "no target", api.ErrRange, old.x, 0)
		b.hold("what was refused")
	}
}

// P12.1: the caller may write over the list of targets that was handed in.
func TestNewKeepsNoList(t *testing.T) {
	for n := 1; n <= 2; n++ {
		old, one, other, stranger := newPair(t, 1).put(of(0, 3, 0)...).put(of(3, 5, greatest)...), newPair(t, 1), newPair(t, 2), newPair(t, 4)
		list := []*table.Table{one.x, other.x, nil, nil}[:n]
		v, err := New(old.x, 0, list...)
		sameError(t, "New", err, nil)
		sameList(t, "the list", list[:cap(list)], []*table.Table{one.x, other.x, nil, nil})
		for i := range list {
			list[i] = stranger.x
		}
		same(t, "Target of bit 0", v.Target(0) == one.x, true)
		same(t, "Target of bit 1", v.Target(greatest) == []*table.Table{one.x, other.x}[n-1], true)
		same(t, "Step", v.Step(&meter.Meter{}), true)
		same(t, "what a stranger got", stranger.x.Len(), 0)
		same(t, "what the targets got", one.x.Len()+other.x.Len(), 5)
	}
}

// P12.1: with one target each hash has it, whatever the depth is.
func TestTargetOfOne(t *testing.T) {
	one := newPair(t, 1)
	for _, depth := range depths() {
		v, err := New(newPair(t, 1).x, depth, one.x)
		sameError(t, "New", err, nil)
		for i := range 64 {
			for _, hash := range []uint64{0, greatest, 1 << i, ^(1 << i), 1<<i - 1, greatest << i} {
				same(t, "Target", v.Target(hash) == one.x, true)
			}
		}
	}
}

// P12.1: with two the bit of the depth alone tells it: of hashes that have just that bit, or all others, and of those without a pattern.
func TestTargetOfTwo(t *testing.T) {
	one, other, next := newPair(t, 1), newPair(t, 1), some()
	targets := []*table.Table{one.x, other.x}
	for depth := range 16 {
		v, err := New(newPair(t, 1).x, depth, targets...)
		sameError(t, "New", err, nil)
		var hashes []uint64
		for i := range 64 {
			hashes = append(hashes, 1<<i, ^(1 << i), 1<<i-1, greatest<<i)
		}
		for range 300 {
			hashes = append(hashes, uint64(next(1<<30))<<34|uint64(next(1<<30))<<17|uint64(next(1<<30)))
		}
		seen := [2]int{}
		for _, hash := range hashes {
			seen[figure(hash, depth)]++
			same(t, "Target of depth "+text(depth)+" of "+strconv.FormatUint(hash, 2), v.Target(hash) == targets[figure(hash, depth)], true)
		}
		if seen[0] < 100 || seen[1] < 100 {
			t.Fatalf("too little was seen: %v", seen)
		}
		same(t, "Target of the bit alone", v.Target(1<<(63-depth)) == other.x, true)
		same(t, "Target of all other bits", v.Target(^(1<<(63-depth))) == one.x, true)
	}
	v, err := New(newPair(t, 1).x, 9, one.x, one.x)
	sameError(t, "New of one table twice", err, nil)
	same(t, "Target", v.Target(0) == one.x && v.Target(greatest) == one.x, true)
}

// P12.1: a group that is empty, that has one entry, that is full, and that has deleted slots ahead of, between and behind its entries; the groups ahead of and behind it are empty.
func TestStepOfEachGroup(t *testing.T) {
	for _, c := range []struct {
		name  string
		put   []api.Entry
		gone  []api.Entry
		signs string
	}{
		{"empty", nil, nil, "........"},
		{"one entry", of(0, 1, 2<<7), nil, "#......."},
		{"one entry behind empty slots", of(0, 5, 2<<7), of(0, 4, 2<<7), "....#..."},
		{"seven entries", of(0, 7, 2<<7), nil, "#######."},
		{"full", of(0, 8, 2<<7), nil, "########"},
		{"deleted slots ahead", of(0, 8, 2<<7), of(0, 3, 2<<7), "xxx#####"},
		{"deleted slots between", of(0, 8, 2<<7), of(2, 6, 2<<7), "##xxxx##"},
		{"deleted slots behind", of(0, 8, 2<<7), of(5, 8, 2<<7), "#####xxx"},
		{"all deleted", of(0, 8, 2<<7), of(0, 8, 2<<7), "xxxxxxxx"},
	} {
		for _, groups := range []int{1, 2, 4} {
			old, target := newPair(t, 4).put(c.put...).remove(c.gone...), newPair(t, groups)
			sameList(t, c.name+", the old table's text", old.x.Text(), []string{"........", "........", c.signs, "........"})
			if c.name == "full" && groups == 1 {
				continue // eight have no room there
			}
			b := newBoth(t, c.name+", to "+text(groups), 0, old, target)
			b.toTheEnd()
			same(t, c.name+", units", b.m[0].All().Plus(b.m[1].All()).Units, 4)
			same(t, c.name+", the target's length", target.x.Len(), len(c.put)-len(c.gone))
		}
	}
}

// P12.1: of each Step as it is told: just that group is moved, all others are as they were.
func TestFromZeroOn(t *testing.T) {
	for _, groups := range sizes() {
		old, target := newPair(t, groups), newPair(t, groups)
		for key := range uint64(5 * groups) {
			old.put(api.Entry{Key: key, Val: key * 3, Hash: key << 7})
		}
		b := newBoth(t, text(groups)+" groups", 0, old, target)
		for g := range groups {
			var before [][]api.Entry
			for k := range groups {
				before = append(before, scan(t, old.x, k))
			}
			same(t, "entries of group "+text(g), len(before[g]), 5)
			b.step()
			for k := range groups {
				want := before[k]
				if k == g {
					want = nil
				}
				sameList(t, "group "+text(k)+" behind Step "+text(g), scan(t, old.x, k), want)
			}
			same(t, "the target's length", target.x.Len(), 5*g+5)
		}
	}
}

// P12.1: within a group from slot 0 on: that tells where they stand in their target.
func TestOneByOne(t *testing.T) {
	old := newPair(t, 1).put(of(20, 27, 0)...).remove(of(22, 23, 0)...).put(of(5, 6, 0)...)
	target := newPair(t, 1)
	b := newBoth(t, "one by one", 0, old, target)
	sameList(t, "the old group", keys(scan(t, old.x, 0)), []uint64{20, 21, 5, 23, 24, 25, 26})
	b.step()
	sameList(t, "the target's group", keys(scan(t, target.x, 0)), []uint64{20, 21, 5, 23, 24, 25, 26})
}

func keys(list []api.Entry) []uint64 {
	var keys []uint64
	for _, e := range list {
		keys = append(keys, e.Key)
	}
	return keys
}

// P12.1: a Step more, as often as may be, tells that there is no group, costs nothing, and moves nothing, even if the old table has an entry again.
func TestBehindTheLastGroup(t *testing.T) {
	for _, groups := range sizes() {
		for _, targets := range [][]*pair{{newPair(t, 64)}, {newPair(t, 64), newPair(t, 64)}} {
			old := newPair(t, groups).put(of(0, uint64(6*groups), 0x777)...)
			b := newBoth(t, text(groups)+" groups, behind the last one", 3, old, targets...)
			b.toTheEnd()
			before := b.counts
			for range 3 {
				same(t, "whether a Step panicked", b.step(), false)
				same(t, "Left", b.x.Left(), 0)
			}
			old.put(of(1000, 1001, 0)...)
			for range 3 {
				same(t, "whether there was a group", b.x.Step(b.m[0]), false)
				b.hold("a Step more")
			}
			same(t, "the old table's length", old.x.Len(), 1)
			same(t, "all counts", b.m[0].All().Plus(b.m[1].All()), before)
			same(t, "all units", before.Units, groups)
		}
	}
}

// P12.1: visits of long searches: all keys have one hash, so that each group of the target that is full is looked at.
func TestVisitsOfLongSearches(t *testing.T) {
	old, target := newPair(t, 1).put(of(500, 507, 0)...), newPair(t, 64).put(of(0, 64*6, 0)...)
	b := newBoth(t, "long searches", 0, old, target)
	b.step()
	// 384 entries fill 48 groups; the seven stand in the 49th one.
	same(t, "counted", b.m[1].All(), meter.Counts{Visits: 1 + 7*49, Units: 1})
}

// P12.1: a meter may have counted before, and isn't reset.
func TestAMeterThatHasCounted(t *testing.T) {
	old, one, other := newPair(t, 2).put(of(0, 3, 0)...).put(of(3, 5, 1<<63)...).put(of(5, 6, 1<<7)...), newPair(t, 1), newPair(t, 1)
	v, err := New(old.x, 0, one.x, other.x)
	sameError(t, "New", err, nil)
	m := &meter.Meter{}
	m.Unit(5)
	m.Probing().Visit()
	same(t, "Step", v.Step(m), true)
	same(t, "last", m.Last(), meter.Counts{Probes: 1, Visits: 6, Units: 6})
	m.Reset()
	same(t, "Step", v.Step(m), true)
	same(t, "last", m.Last(), meter.Counts{Visits: 2, Units: 1})
	same(t, "all", m.All(), meter.Counts{Probes: 1, Visits: 8, Units: 7})
	same(t, "Step", v.Step(m), false)
	same(t, "all", m.All(), meter.Counts{Probes: 1, Visits: 8, Units: 7})
}

// P12.1: a Step that would pass the meter's limit raises ErrLimit, as layer 6 tells of it, and does nothing; the Steps go on when the limit lets them. Where no group is left, nothing is counted, so that nothing is raised.
func TestAMeterWithALimit(t *testing.T) {
	for _, groups := range sizes() {
		for limit := range groups {
			old, target, m := newPair(t, groups).put(of(0, uint64(7*groups), 0)...), newPair(t, groups), &meter.Meter{}
			all := allOf(t, old.x)
			v, err := New(old.x, 0, target.x)
			sameError(t, "New", err, nil)
			m.Limit(limit)
			for range limit {
				same(t, "Step", v.Step(m), true)
			}
			before, length := m.All(), target.x.Len()
			for range 2 {
				sameError(t, "Step", trap.Catch(func() { v.Step(m) }), api.ErrLimit)
				same(t, "Left", v.Left(), groups-limit)
				same(t, "counted", m.All(), before)
				same(t, "the target's length", target.x.Len(), length)
				eachOnce(t, "behind the limit", all, []*table.Table{old.x, target.x})
			}
			m.Limit(groups)
			for range groups - limit {
				same(t, "Step", v.Step(m), true)
			}
			sameError(t, "Step", trap.Catch(func() { same(t, "Step", v.Step(m), false) }), nil)
			sameList(t, "the target's entries", allOf(t, target.x), all)
		}
	}
}

// P12.1, P12.2: a target that has the key of the first entry of a group, of one between, or of the last one, with its value or another one. The target keeps its value; the entries ahead are moved, and all others stay where they were.
func TestATargetThatHasTheKey(t *testing.T) {
	for _, hash := range []uint64{0, 1 << 63} {
		for at := range uint64(7) {
			for _, val := range []uint64{at + 100, 0, 55} {
				old := newPair(t, 2).put(of(0, 7, hash)...).put(of(7, 9, hash|1<<7)...)
				there := api.Entry{Key: at, Val: val, Hash: hash}
				targets := []*pair{newPair(t, 2), newPair(t, 2)}
				targets[hash>>63].put(there)
				b := newBoth(t, "the key "+text(int(at)), 0, old, targets...)
				all := allOf(t, b.tables()...)
				for range 3 {
					same(t, "whether it panicked", b.step(), true)
					same(t, "Left", b.x.Left(), 2)
					same(t, "the old table's length", old.x.Len(), 9-int(at))
					sameList(t, "all entries", sorted(allOf(t, b.tables()...)), sorted(all))
					e, is := targets[hash>>63].x.Find(meter.Lens{}, at, hash)
					same(t, "the target's entry", e, there)
					same(t, "the target's entry", is, true)
				}
				targets[hash>>63].remove(there)
				b.toTheEnd()
				same(t, "the target's length", targets[hash>>63].x.Len(), 9)
			}
		}
	}
}

// sorted is by values, too, since here a key may have two of them.
func sorted(list []api.Entry) []api.Entry {
	slices.SortFunc(list, func(a, b api.Entry) int {
		return cmp.Or(cmp.Compare(a.Key, b.Key), cmp.Compare(a.Val, b.Val))
	})
	return list
}

// P12.1: a key that another target than the entry's has doesn't matter.
func TestAKeyInTheOtherTarget(t *testing.T) {
	old, one, other := newPair(t, 1).put(of(0, 3, 0)...), newPair(t, 1), newPair(t, 1)
	other.put(of(0, 3, 1<<63)...)
	v, err := New(old.x, 0, one.x, other.x)
	sameError(t, "New", err, nil)
	m := &meter.Meter{}
	sameError(t, "Step", trap.Catch(func() { same(t, "Step", v.Step(m), true) }), nil)
	same(t, "the one's length", one.x.Len(), 3)
	same(t, "the other's length", other.x.Len(), 3)
}

// P12.1, P12.2: a target with room for each number of entries less than come. Those ahead are moved, and all others stay where they were; the Steps go on when there is room.
func TestATargetThatHasNoRoom(t *testing.T) {
	seen := 0
	for _, hash := range []uint64{0, 1 << 63} {
		for _, groups := range sizes() {
			for room := range min(8, 7*groups) {
				old := newPair(t, 2).put(of(0, 8, hash)...)
				targets := []*pair{newPair(t, groups), newPair(t, groups)}
				target := targets[hash>>63]
				full := of(1000, 1000+uint64(7*groups-room), hash|1<<7)
				b := newBoth(t, "room for "+text(room), 0, old, targets...)
				target.put(full...)
				all := allOf(t, b.tables()...)
				for range 2 {
					same(t, "whether it panicked", b.step(), true)
					same(t, "Left", b.x.Left(), 2)
					same(t, "what is left of the target", target.x.Left(), 0)
					same(t, "the old table's length", old.x.Len(), 8-room)
					eachOnce(t, "no room", all, b.tables())
				}
				target.remove(full...)
				if target.x.Left() >= 8-room {
					seen++
					b.toTheEnd()
				}
			}
		}
	}
	if seen < 20 {
		t.Fatalf("too little was seen: %d ends", seen)
	}
}

// P12.1: deleted slots are no room, if nothing is left; if one slot is left, they are.
func TestATargetOfDeletedSlots(t *testing.T) {
	for left := range 2 {
		old, target := newPair(t, 1).put(of(0, 7, 0)...), newPair(t, 2).put(of(1000, uint64(1014-left), 0)...)
		target.remove(of(1000, 1008, 0)...)
		sameList(t, "the target's text", target.x.Text(), []string{"xxxxxxxx", []string{"######..", "#####..."}[left]})
		b := newBoth(t, "deleted slots", 0, old, target)
		all := allOf(t, b.tables()...)
		same(t, "whether it panicked", b.step(), left == 0)
		same(t, "Left", b.x.Left(), 1-left)
		same(t, "the old table's length", old.x.Len(), 7-7*left)
		eachOnce(t, "deleted slots", all, b.tables())
	}
}

// P12.2: without a panic there is just as much room as is needed.
func TestJustEnoughRoom(t *testing.T) {
	for _, groups := range sizes() {
		for _, h := range hashings() {
			old, target := newPair(t, groups), newPair(t, groups)
			for key := range uint64(7 * groups) {
				if key%3 == 0 {
					target.put(h.entry(key, 1))
				} else {
					old.put(h.entry(key, 2))
				}
			}
			b := newBoth(t, h.name+", just enough", 0, old, target)
			b.toTheEnd()
			same(t, "what is left of the target", target.x.Left(), 0)
			b.step()
		}
	}
}

// P12.1, P12.2: all sizes, one target and two of each depth, hostile hashes, and tables that had deleted slots before; each moved from its first group to its last one.
func TestAllIsMoved(t *testing.T) {
	next := some()
	tombs := 0
	for _, groups := range sizes() {
		for _, h := range hashings() {
			for depth := -1; depth < 16; depth += 1 + groups/16 {
				old := newPair(t, groups)
				for key := range uint64(6 * groups) {
					old.put(h.entry(key, uint64(next(1000))))
				}
				for key := range uint64(6 * groups) {
					if next(4) == 0 {
						old.remove(h.entry(key, 0))
					}
				}
				tombs += old.x.Tombs()
				targets := []*pair{newPair(t, groups)}
				if depth >= 0 {
					targets = append(targets, newPair(t, groups))
				}
				b := newBoth(t, h.name+", "+text(groups)+" groups, depth "+text(depth), depth, old, targets...)
				for range groups { // some are there before
					e := h.entry(uint64(6*groups+next(40)), 7)
					b.target(e.Hash).put(e)
				}
				b.toTheEnd()
			}
		}
	}
	if tombs < 1000 {
		t.Fatalf("too little was seen: %d deleted slots", tombs)
	}
}

// P12.1: each order of a few calls, of Steps and of what layer 9 does between them, in the old table and in the targets.
func TestAllShortOrders(t *testing.T) {
	calls := []func(b *both){
		func(b *both) { b.step() },
		func(b *both) { b.old.put(of(1, 3, 0)...) },
		func(b *both) { b.old.put(of(3, 5, 1<<63|1<<7)...) },
		func(b *both) { b.old.remove(of(2, 4, 0)...) },
		func(b *both) { b.targets[0].put(of(2, 3, 0)...) },
		func(b *both) { b.targets[0].remove(of(2, 3, 0)...) },
		func(b *both) { b.targets[1].take(0) },
	}
	const long = 5
	orders := 1
	for range long {
		orders *= len(calls)
	}
	panics := 0
	for order := range orders {
		b := newBoth(t, "order "+text(order), 0, newPair(t, 2).put(of(10, 13, 0)...).put(of(13, 15, greatest)...), newPair(t, 1), newPair(t, 1))
		left := order
		for range long {
			calls[left%len(calls)](b)
			b.hold("a call")
			left /= len(calls)
		}
		if b.step() {
			panics++
		}
	}
	if panics < 100 {
		t.Fatalf("too little was seen: %d panics", panics)
	}
}

// P12.1, P12.2: long orders of Steps between which layer 9 changes the tables; behind each Step that doesn't panic, and each one that does, no entry is lost, and none is new.
func TestLongOrders(t *testing.T) {
	next := some()
	panics, ends := 0, 0
	for _, groups := range sizes() {
		for _, h := range hashings() {
			for round := range 16 / (1 + groups/16) {
				targets := []*pair{newPair(t, sizes()[next(7)]), newPair(t, sizes()[next(7)])}[:1+round%2]
				b := newBoth(t, h.name+", "+text(groups)+" groups, a long order", next(16), newPair(t, groups), targets...)
				for range 3 * groups {
					putIn(b.old, h.entry(uint64(next(5*groups)), uint64(next(99))))
				}
				for range 3*groups + 6 {
					e := h.entry(uint64(next(5*groups)), uint64(next(99)))
					if b.aStepOr(next, e) {
						panics++
					}
				}
				if b.x.Left() == 0 {
					ends++
				}
			}
		}
	}
	if panics < 1000 || ends < 200 {
		t.Fatalf("too little was seen: %d panics, %d ends", panics, ends)
	}
}

// aStepOr does a Step, or changes one of the tables; it tells whether there was a panic.
func (b *both) aStepOr(next func(int) int, e api.Entry) bool {
	b.t.Helper()
	switch next(8) {
	case 0:
		putIn(b.target(e.Hash), e)
	case 1:
		b.target(e.Hash).remove(e)
	case 2:
		b.old.remove(e)
	case 3:
		putIn(b.old, e)
	default:
		before := sorted(allOf(b.t, b.tables()...))
		panicked := b.step()
		sameList(b.t, b.what+", all entries", sorted(allOf(b.t, b.tables()...)), before)
		return panicked
	}
	b.hold("a call of layer 9")
	return false
}

// putIn puts it if there is room.
func putIn(p *pair, e api.Entry) {
	if p.s.left() > 0 || p.s.has(e.Key) {
		p.put(e)
	}
}

// P12.1: several evacuations, stepped in turns, have each its own groups; two may have one target.
func TestSeveralEvacuations(t *testing.T) {
	for _, groups := range sizes() {
		shared := newPair(t, 64)
		one := newBoth(t, "the one", 0, newPair(t, groups).put(of(0, uint64(3*groups), 0)...), shared)
		other := newBoth(t, "the other", 1, newPair(t, groups).put(of(500, 500+uint64(3*groups), 1<<62)...), newPair(t, 1), shared)
		for n := range groups {
			one.step()
			same(t, "the other's Left", other.x.Left(), groups-n)
			other.step()
			same(t, "the one's Left", one.x.Left(), groups-n-1)
		}
		same(t, "the target's length", shared.x.Len(), 6*groups)
		same(t, "what is left in the old ones", one.old.x.Len()+other.old.x.Len(), 0)
	}
}

// P12.1: the tables are those that were handed in, and stay in use.
func TestTheTablesAreNoCopies(t *testing.T) {
	old, target := newPair(t, 2), newPair(t, 2)
	b := newBoth(t, "no copies", 0, old, target)
	old.put(of(0, 3, 1<<7)...)
	target.put(of(50, 52, 1<<7)...)
	b.step()
	old.put(of(3, 5, 1<<7)...)
	b.toTheEnd()
	target.put(of(90, 91, 0)...)
	b.hold("Put")
	same(t, "the target's length", b.x.Target(0).Len(), 8)
	old.put(of(95, 96, 0)...)
	same(t, "the old table's length", old.x.Len(), 1)
}
