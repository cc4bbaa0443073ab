package node

import (
	"cmp"
	"errors"
	"maps"
	"math"
	"slices"
	"strconv"
	"testing"

	"ambler/api"
	"ambler/choose"
	"ambler/meter"
	"ambler/sound"
	"ambler/table"
	"ambler/trap"
)

// The tests hold each call against a slow node, which is written from the chapters' words alone: its tables are rows of eight slots that are gone through one by one, with no layer below, and its limits are numbers of its own. What it has is held against a plain map from keys to entries behind each act.

const greatest = math.MaxUint64

// row is a slow group. As long as it was never full, a slot that is let go is empty; from then on it is deleted.
type row struct {
	slots   [8]*api.Entry
	wasFull bool
}

// shelf is a slow table.
type shelf []*row

func newShelf(groups int) shelf {
	var s shelf
	for range groups {
		s = append(s, &row{})
	}
	return s
}

func (s shelf) entries() []api.Entry {
	var list []api.Entry
	for _, r := range s {
		for _, e := range r.slots {
			if e != nil {
				list = append(list, *e)
			}
		}
	}
	return list
}

// count is how many slots are full, and how many are deleted.
func (s shelf) count() (full, deleted int) {
	for _, r := range s {
		for _, e := range r.slots {
			switch {
			case e != nil:
				full++
			case r.wasFull:
				deleted++
			}
		}
	}
	return full, deleted
}

func (s shelf) left() int {
	full, deleted := s.count()
	return 7*len(s) - full - deleted
}

// walk adds 1, 2, 3 .. one by one.
func (s shelf) walk(hash uint64) []*row {
	n := uint64(len(s))
	place := hash / 128 % n
	var list []*row
	for i := range n {
		place = (place + i) % n
		list = append(list, s[place])
	}
	return list
}

// seek is the slot of a key, nil if it isn't there, and how many groups are looked at for it.
func (s shelf) seek(key, hash uint64) (at **api.Entry, looks int) {
	for _, r := range s.walk(hash) {
		looks++
		for i, e := range r.slots {
			if e != nil && e.Key == key {
				return &r.slots[i], looks
			}
		}
		if !r.wasFull {
			break
		}
	}
	return nil, looks
}

// put wants a key that isn't there; it tells whether there was room.
func (s shelf) put(e api.Entry) bool {
	if s.left() == 0 {
		return false
	}
	for _, r := range s.walk(e.Hash) {
		if i := slices.Index(r.slots[:], nil); i >= 0 {
			r.slots[i] = &e
			r.wasFull = r.wasFull || !slices.Contains(r.slots[:], nil)
			return true
		}
	}
	panic("something is left, and no slot is free")
}

// slowNode is a node of slow tables.
type slowNode struct {
	prefix, depth int
	table         shelf
	job           int
	fresh         []shelf
	steps         int // of the job, that are done
}

func (s *slowNode) freshGroups() int {
	n := 0
	for _, each := range s.fresh {
		n += len(each)
	}
	return n
}

func (s *slowNode) groups() int { return len(s.table) + s.freshGroups() }

func (s *slowNode) left() int {
	if s.job == 0 {
		return 0
	}
	return s.groups() - s.steps
}

func (s *slowNode) done() bool { return s.job > 0 && s.left() == 0 }

func (s *slowNode) tombs() int {
	if s.job > 0 {
		return 0
	}
	_, deleted := s.table.count()
	return deleted
}

func (s *slowNode) ready() bool { return s.job > 0 && s.steps >= s.freshGroups() }

func (s *slowNode) target(hash uint64) shelf {
	if s.job < 3 {
		return s.fresh[0]
	}
	return s.fresh[figure(hash, s.depth)]
}

// where is the tables in which a key is looked for; a new one stands in the first of them.
func (s *slowNode) where(hash uint64) []shelf {
	if s.ready() {
		return []shelf{s.target(hash), s.table}
	}
	return []shelf{s.table}
}

func (s *slowNode) seek(key, hash uint64) (at **api.Entry, looks int) {
	for _, each := range s.where(hash) {
		at, more := each.seek(key, hash)
		looks += more
		if at != nil {
			return at, looks
		}
	}
	return nil, looks
}

func (s *slowNode) put(e api.Entry, more bool) (isNew bool, err error) {
	if at, _ := s.seek(e.Key, e.Hash); at != nil {
		(*at).Val = e.Val
		return false, nil
	}
	if !more || !s.where(e.Hash)[0].put(e) {
		return false, api.ErrFull
	}
	return true, nil
}

// asked is how many groups may be asked.
func (s *slowNode) asked() int {
	if s.ready() {
		return s.groups()
	}
	return len(s.table)
}

func (s *slowNode) entries() []api.Entry {
	list := s.table.entries()
	for _, each := range s.fresh {
		list = append(list, each.entries()...)
	}
	return list
}

// wants is what layer 14 says of the table.
func (s *slowNode) wants(global int) (kind int, double bool) {
	groups := len(s.table)
	live, tombs := s.table.count()
	if s.job > 0 || global < 0 || live+tombs < 4*groups {
		return 0, false
	}
	double = live > 2*groups && groups >= 8 && s.depth == global && global < 5
	switch {
	case live <= 2*groups:
		return 1, double
	case groups >= 8 && s.depth < global:
		return 3, double
	case groups < 64:
		return 2, double
	}
	return 1, double
}

func (s *slowNode) start(kind int) error {
	groups := len(s.table)
	switch {
	case s.job > 0:
		return api.ErrState
	case kind == 1:
		s.fresh = []shelf{newShelf(groups)}
	case kind == 2 && groups < 64:
		s.fresh = []shelf{newShelf(2 * groups)}
	case kind == 3 && s.depth < 5:
		s.fresh = []shelf{newShelf(groups), newShelf(groups)}
	case kind == 2 || kind == 3:
		return api.ErrRange
	default:
		return api.ErrKind
	}
	s.job, s.steps = kind, 0
	return nil
}

// step tells whether there is a step, whether a target has no room, and what the step should count if it has.
func (s *slowNode) step() (is, broken bool, counts meter.Counts) {
	if s.left() == 0 {
		return false, false, counts
	}
	counts = meter.Counts{Visits: 1, Units: 1}
	if s.ready() {
		r := s.table[s.steps-s.freshGroups()]
		for i, e := range r.slots {
			if e == nil {
				continue
			}
			to := s.target(e.Hash)
			_, looks := to.seek(e.Key, e.Hash)
			counts.Visits += looks
			if !to.put(*e) {
				return true, true, counts
			}
			r.slots[i] = nil
		}
	}
	s.steps++
	return true, false, counts
}

// end wants a job that is done.
func (s *slowNode) end() (other *slowNode) {
	s.table = s.fresh[0]
	if s.job == 3 {
		s.prefix, s.depth = 2*s.prefix, s.depth+1
		other = &slowNode{prefix: s.prefix + 1, depth: s.depth, table: s.fresh[1]}
	}
	s.job, s.fresh, s.steps = 0, nil, 0
	return other
}

func inOrder(a, b api.Entry) int {
	return cmp.Or(cmp.Compare(a.Hash, b.Hash), cmp.Compare(a.Key, b.Key))
}

// figure is one of the 64 figures of a hash, from the highest one on.
func figure(hash uint64, i int) int {
	for range 63 - i {
		hash /= 2
	}
	return int(hash % 2)
}

// isWithin reads a prefix off a hash's figures.
func isWithin(hash uint64, prefix, depth int) bool {
	n := 0
	for i := range depth {
		n = 2*n + figure(hash, i)
	}
	return n == prefix
}

// both is a node, a slow one, and a plain map.
type both struct {
	t     *testing.T
	what  string
	act   string // the last one
	x     *Node
	s     *slowNode
	plain map[uint64]api.Entry
	quiet bool    // while it is made ready
	h     hashing // of its keys, where a test asks for it
	m     *meter.Meter
	acts  int
}

func newBoth(t *testing.T, what string, prefix, depth int) *both {
	t.Helper()
	x, err := New(prefix, depth)
	sameError(t, what+", New", err, nil)
	if x == nil {
		t.Fatal(what + ": no node")
	}
	s := &slowNode{prefix: prefix, depth: depth, table: newShelf(1)}
	b := &both{t: t, what: what, act: "New", x: x, s: s, plain: map[uint64]api.Entry{}, m: &meter.Meter{}}
	b.hold()
	return b
}

func (b *both) failed(what string, got, want any) {
	b.t.Fatalf("%s, act %d, %s, %d of %d steps left: %s is %v, not %v", b.what, b.acts, b.act, b.s.left(), b.s.groups(), what, got, want)
}

// is holds what was got against what was wanted. What it tells is put together only where they differ, and the line of the test isn't asked for (by Helper), since most of the tests' time would go there.
func is[T comparable](b *both, what string, got, want T) {
	if got != want {
		b.failed(what, got, want)
	}
}

// lens begins an act: its looks are counted as probes and as visits by turns.
func (b *both) lens(act string) meter.Lens {
	b.begin(act)
	if b.acts%2 == 0 {
		return b.m.Probing()
	}
	return b.m.Working()
}

func (b *both) begin(act string) {
	b.act = act
	b.acts++
	b.m.Reset()
}

// looked ends an act that looks at so many groups.
func (b *both) looked(looks int) {
	want := meter.Counts{Visits: looks}
	if b.acts%2 == 0 {
		want = meter.Counts{Probes: looks}
	}
	is(b, "what is counted", b.m.Last(), want)
	b.hold()
}

func (b *both) find(key, hash uint64) {
	b.t.Helper()
	want, was := b.plain[key]
	_, looks := b.s.seek(key, hash)
	e, has := b.x.Find(b.lens("Find"), key, hash)
	is(b, "the entry", e, want)
	is(b, "whether it is there", has, was)
	b.looked(looks)
}

// put answers the error, so that a test can tell what it has seen.
func (b *both) put(e api.Entry, more bool) error {
	b.t.Helper()
	_, looks := b.s.seek(e.Key, e.Hash)
	_, was := b.plain[e.Key]
	wantNew, want := b.s.put(e, more)
	isNew, err := b.x.Put(b.lens("Put"), e, more)
	b.sameError(err, want)
	is(b, "whether the key is new", isNew, wantNew)
	is(b, "whether the key is new to the plain map", isNew, !was && err == nil)
	if err == nil {
		b.plain[e.Key] = e
	}
	b.looked(looks)
	return err
}

// fill wants room for all.
func (b *both) fill(list []api.Entry) *both {
	b.t.Helper()
	for _, e := range list {
		b.sameError(b.put(e, true), nil)
	}
	return b
}

func (b *both) remove(key, hash uint64) {
	b.t.Helper()
	want, was := b.plain[key]
	at, looks := b.s.seek(key, hash)
	if at != nil {
		*at = nil
	}
	delete(b.plain, key)
	e, has := b.x.Delete(b.lens("Delete"), key, hash)
	is(b, "the entry", e, want)
	is(b, "whether it was there", has, was)
	b.looked(looks)
}

func (b *both) removeAll(list []api.Entry) *both {
	b.t.Helper()
	for _, e := range list {
		b.remove(e.Key, e.Hash)
	}
	return b
}

func (b *both) least(hash, key uint64) {
	b.t.Helper()
	var want api.Entry
	was := false
	for _, e := range b.all() {
		if inOrder(e, api.Entry{Key: key, Hash: hash}) >= 0 {
			want, was = e, true
			break
		}
	}
	e, has := b.x.Least(b.lens("Least"), hash, key)
	is(b, "the entry", e, want)
	is(b, "whether there is one", has, was)
	b.looked(b.s.asked())
}

// start answers the error, so that a test can tell what it has seen.
func (b *both) start(kind int) error {
	b.t.Helper()
	b.begin("Start of " + text(kind))
	err := b.x.Start(kind)
	b.sameError(err, b.s.start(kind))
	is(b, "what is counted", b.m.Last(), meter.Counts{})
	b.hold()
	return err
}

// step tells whether there was a step, and whether it panicked.
func (b *both) step() (was, panicked bool) {
	b.t.Helper()
	b.begin("Step")
	was, broken, counts := b.s.step()
	got := false
	with := panicOf(func() { got = b.x.Step(b.m) })
	if broken {
		is(b, "its panic", with, panicOf(func() { trap.Raise(api.ErrBroken) }))
	} else {
		is(b, "its panic", with, nil)
		is(b, "whether there was a step", got, was)
		is(b, "what is counted", b.m.Last(), counts)
	}
	b.hold()
	return was, broken
}

// steps does all steps that are left; none of them may panic.
func (b *both) steps() *both {
	b.t.Helper()
	for b.s.left() > 0 {
		_, panicked := b.step()
		is(b, "whether a step panicked", panicked, false)
	}
	return b
}

// end is the other half behind a Split, and nil behind all else; it tells whether the job ended.
func (b *both) end() (other *both, ended bool) {
	b.t.Helper()
	b.begin("End")
	done, before := b.s.done(), b.all()
	x, err := b.x.End()
	is(b, "what is counted", b.m.Last(), meter.Counts{})
	if !done {
		b.sameError(err, api.ErrState)
		is(b, "the node that is answered", x, nil)
		b.hold()
		return nil, false
	}
	b.sameError(err, nil)
	half := b.s.end()
	is(b, "whether there is a node that is answered", x != nil, half != nil)
	if half != nil {
		other = b.part(x, half)
		other.holdEnd()
	}
	b.holdEnd()
	b.sameHalves(other, before)
	return other, true
}

// part hands what the plain map has of the other half on to it.
func (b *both) part(x *Node, s *slowNode) *both {
	o := &both{t: b.t, what: b.what + "'s half", act: "the other's End", x: x, s: s, plain: map[uint64]api.Entry{}, h: b.h, m: &meter.Meter{}}
	for key, e := range b.plain {
		if isWithin(e.Hash, s.prefix, s.depth) {
			o.plain[key] = e
			delete(b.plain, key)
		}
	}
	return o
}

// holdEnd holds that the new table, and it alone, is the node's.
func (b *both) holdEnd() {
	b.t.Helper()
	b.hold()
	b.sameError(sound.Check(b.x.table), nil)
	is(b, "the table's groups", b.x.table.Groups(), len(b.s.table))
	is(b, "the table's length", b.x.table.Len(), len(b.plain))
}

// sameHalves holds that both nodes together have what the one had, each what is of its prefix.
func (b *both) sameHalves(other *both, before []api.Entry) {
	b.t.Helper()
	halves := []*both{b}
	if other != nil {
		halves = append(halves, other)
	}
	var list []api.Entry
	for _, each := range halves {
		prefix, depth := each.x.Prefix()
		for _, e := range through(each.x) {
			is(b, "whether an entry is of its node's prefix", isWithin(e.Hash, prefix, depth), true)
			list = append(list, e)
		}
	}
	slices.SortFunc(list, inOrder)
	is(b, "whether what was there is there", slices.Equal(list, before), true)
}

// toTheEnd does all steps, and ends the job.
func (b *both) toTheEnd() *both {
	b.t.Helper()
	b.steps()
	other, ended := b.end()
	is(b, "whether it ended", ended, true)
	return other
}

// quietly makes a node ready, and holds it then.
func (b *both) quietly(ready func()) *both {
	b.quiet = true
	ready()
	b.quiet = false
	b.hold()
	b.holdAll()
	return b
}

// job does a whole one.
func (b *both) job(kind int) *both {
	b.t.Helper()
	b.sameError(b.start(kind), nil)
	return b.toTheEnd()
}

// grown has so many groups, each of which was there once.
func (b *both) grown(groups int) *both {
	b.t.Helper()
	return b.quietly(func() {
		for len(b.s.table) < groups {
			b.job(choose.Grow)
		}
	})
}

// hold asks all that doesn't change anything, twice, so that what asking would change is seen, too.
func (b *both) hold() {
	if b.quiet {
		return
	}
	for range 2 {
		prefix, depth := b.x.Prefix()
		is(b, "Prefix", prefix, b.s.prefix)
		is(b, "the depth", depth, b.s.depth)
		is(b, "Left", b.x.Left(), b.s.left())
		is(b, "Done", b.x.Done(), b.s.done())
		is(b, "Job", b.x.Job(), b.s.job)
		is(b, "Len", b.x.Len(), len(b.plain))
		is(b, "Tombs", b.x.Tombs(), b.s.tombs())
		is(b, "Groups", b.x.Groups(), b.s.groups())
		b.wants(b.acts%8 - 1)
	}
	// Going through all of a great node behind each act takes too long.
	if b.s.groups() <= 6 || b.acts%64 == 0 {
		b.holdAll()
	}
}

func (b *both) wants(global int) {
	wantKind, wantDouble := b.s.wants(global)
	kind, double := b.x.Wants(global)
	if kind != wantKind || double != wantDouble {
		b.failed("Wants at "+text(global), []any{kind, double}, []any{wantKind, wantDouble})
	}
}

// holdAll holds that the node is that partial function: all keys, found one by one and gone through in the order, and keys that aren't there.
func (b *both) holdAll() {
	all := b.all()
	listed := b.s.entries()
	slices.SortFunc(listed, inOrder)
	is(b, "whether the two models are one", slices.Equal(listed, all), true)
	for _, want := range all {
		e, has := b.x.Find(meter.Lens{}, want.Key, want.Hash)
		is(b, "the entry of a key", e, want)
		is(b, "whether it is there", has, true)
		if _, was := b.plain[^want.Key]; !was {
			e, has = b.x.Find(meter.Lens{}, ^want.Key, want.Hash)
			is(b, "the entry of a key that isn't there", e, api.Entry{})
			is(b, "whether it is there", has, false)
		}
	}
	if got := through(b.x); !slices.Equal(got, all) {
		b.failed("what Least goes through", got, all)
	}
}

// all is what the plain map has, in the order.
func (b *both) all() []api.Entry {
	return slices.SortedFunc(maps.Values(b.plain), inOrder)
}

// through is all entries, by Least.
func through(x *Node) []api.Entry {
	var list []api.Entry
	e, is := x.Least(meter.Lens{}, 0, 0)
	for is {
		list = append(list, e)
		switch {
		case e.Key < greatest:
			e, is = x.Least(meter.Lens{}, e.Hash, e.Key+1)
		case e.Hash < greatest:
			e, is = x.Least(meter.Lens{}, e.Hash+1, 0)
		default:
			is = false
		}
	}
	return list
}

// panicOf is what f panics with: Catch answers ErrBroken of what was raised and of any other panic, too.
func panicOf(f func()) (with any) {
	defer func() { with = recover() }()
	f()
	return nil
}

func (b *both) sameError(got, want error) {
	if !isError(got, want) {
		b.failed("the error", got, want)
	}
}

func sameError(t *testing.T, what string, got, want error) {
	t.Helper()
	if !isError(got, want) {
		t.Fatalf("%s: %v, not %v", what, got, want)
	}
}

// isError asks by ==, too, not by errors.Is alone: the promise is that error, not one around it.
func isError(got, want error) bool {
	if got == nil || want == nil {
		return got == nil && want == nil
	}
	return got == want && errors.Is(got, want)
}

func same[T comparable](t *testing.T, what string, got, want T) {
	t.Helper()
	if got != want {
		t.Fatalf("%s: %v, not %v", what, got, want)
	}
}

func text(n int) string { return strconv.Itoa(n) }

// sizes are all numbers of groups that a table may have.
func sizes() []int { return []int{1, 2, 4, 8, 16, 32, 64} }

// kinds are all that a job may be.
func kinds() []int { return []int{choose.Sweep, choose.Grow, choose.Split} }

// numbers are far below to far above those that there may be.
func numbers() []int {
	list := []int{math.MinInt, math.MinInt + 1, math.MinInt + 3, math.MinInt32, -1 << 16, 1 << 16, 1<<16 + 1, math.MaxInt32, 1 << 32, 1<<32 + 1, 1<<32 + 3, 1<<63 - 64, 1 << 62, math.MaxInt - 1, math.MaxInt}
	for n := -70; n <= 140; n++ {
		list = append(list, n)
	}
	return list
}

// hashing tells the hash of each key, always the same one.
type hashing struct {
	name string
	of   func(key uint64) uint64
}

// hashings gives hostile ones, too: one hash for all keys, one walk, one lower part, or one half for all.
func hashings() []hashing {
	return []hashing{
		{"one hash", func(uint64) uint64 { return 0x0123456789ABCDEF }},
		{"no hash", func(uint64) uint64 { return 0 }},
		{"the greatest hash", func(uint64) uint64 { return greatest }},
		{"one walk", func(key uint64) uint64 { return key<<48 | key<<59 | 5<<7 | key%128 }},
		{"one lower part", func(key uint64) uint64 { return key<<7 | key<<58 | 0x2A }},
		{"two hashes", func(key uint64) uint64 { return -(key % 2) }},
		{"the key", func(key uint64) uint64 { return key }},
		{"spread", func(key uint64) uint64 { return (key + 1) * 0x9E3779B97F4A7C15 }},
	}
}

// in is the hashing of hashes of a prefix.
func (h hashing) in(prefix, depth int) hashing {
	return hashing{h.name, func(key uint64) uint64 { return h.of(key)>>depth | uint64(prefix)<<(64-depth) }}
}

func (h hashing) entry(key, val uint64) api.Entry {
	return api.Entry{Key: key, Val: val, Hash: h.of(key)}
}

func (h hashing) entries(from, to int) []api.Entry {
	var list []api.Entry
	for key := from; key < to; key++ {
		list = append(list, h.entry(uint64(key), uint64(key)+100))
	}
	return list
}

// of gives entries of so many keys in a row, all with one hash.
func of(from, to int, hash uint64) []api.Entry {
	return hashing{of: func(uint64) uint64 { return hash }}.entries(from, to)
}

// some gives numbers without a pattern.
func some() func(below int) int {
	x := uint64(88172645463325252)
	return func(below int) int {
		x ^= x << 13
		x ^= x >> 7
		x ^= x << 17
		return int(x >> 11 % uint64(below))
	}
}

// isPrefix tells whether there is such a prefix, of a depth of which there may be a node.
func isPrefix(prefix, depth int) bool {
	if depth < 0 || depth > 5 {
		return false
	}
	many := 1
	for range depth {
		many += many
	}
	return prefix >= 0 && prefix < many
}

// refused holds that New's error comes alone.
func refused(t *testing.T, prefix, depth int) {
	t.Helper()
	x, err := New(prefix, depth)
	what := "New of " + text(prefix) + ", " + text(depth)
	sameError(t, what, err, api.ErrRange)
	same(t, what+", the node", x, nil)
}

// P15.1
func TestTheExample(t *testing.T) {
	b := newBoth(t, "the example", 0, 0)
	b.fill(of(0, 4, 0))
	kind, double := b.x.Wants(0)
	same(t, "Wants", kind, choose.Grow)
	same(t, "Wants, the directory", double, false)
	sameError(t, "Start", b.x.Start(choose.Grow), nil)
	m := &meter.Meter{}
	for range 3 {
		same(t, "Step", b.x.Step(m), true)
	}
	same(t, "Step", b.x.Step(m), false)
	other, err := b.x.End()
	sameError(t, "End", err, nil)
	same(t, "the node that is answered", other, nil)
	same(t, "Groups", b.x.Groups(), 2)
	same(t, "Len", b.x.Len(), 4)
	// Two groups are prepared; four entries are moved out of one, each into a group that it is looked for in.
	same(t, "counted", m.All(), meter.Counts{Visits: 2 + 1 + 4, Units: 3})
}

// P15.1: the edges that the chapter names.
func TestNewAtItsEdges(t *testing.T) {
	for _, c := range [][2]int{{0, 0}, {0, 1}, {1, 1}, {0, 2}, {3, 2}, {0, 4}, {15, 4}, {0, 5}, {31, 5}} {
		newBoth(t, "New of "+text(c[0])+", "+text(c[1]), c[0], c[1])
	}
	for _, c := range [][2]int{
		{0, -1}, {-1, -1}, {1, -1}, {-1, 0}, {1, 0}, {-1, 1}, {2, 1}, {4, 2}, {16, 4}, {-1, 5}, {32, 5},
		{0, 6}, {1, 6}, {31, 6}, {32, 6}, {63, 6}, {0, 7}, {0, 15}, {0, 16}, {0, 17}, {0, 64}, {0, math.MaxInt}, {0, math.MinInt},
	} {
		refused(t, c[0], c[1])
	}
}

// P15.1: all numbers.
func TestNewOfAllNumbers(t *testing.T) {
	rights := 0
	for _, depth := range numbers() {
		for _, prefix := range numbers() {
			if isPrefix(prefix, depth) {
				newBoth(t, "New of "+text(prefix)+", "+text(depth), prefix, depth)
				rights++
				continue
			}
			refused(t, prefix, depth)
		}
	}
	same(t, "prefixes that there are", rights, 1+2+4+8+16+32)
}

// P15.1: a new node has no entries, no job, and one group.
func TestANewNode(t *testing.T) {
	b := newBoth(t, "a new node", 5, 3)
	prefix, depth := b.x.Prefix()
	same(t, "the prefix", prefix, 5)
	same(t, "the depth", depth, 3)
	same(t, "Len", b.x.Len(), 0)
	same(t, "Tombs", b.x.Tombs(), 0)
	same(t, "Groups", b.x.Groups(), 1)
	same(t, "Job", b.x.Job(), choose.None)
	same(t, "Left", b.x.Left(), 0)
	same(t, "Done", b.x.Done(), false)
	b.find(0, 5<<61)
	b.remove(0, 5<<61)
	b.least(0, 0)
	b.least(greatest, greatest)
	b.step()
	b.end()
}

// P15.1: of the table alone: all slots that may be are full, more or not.
func TestPutWhereNothingIsLeftOfATable(t *testing.T) {
	for _, groups := range sizes() {
		for _, h := range hashings() {
			b := newBoth(t, h.name+", a full table", 0, 0).grown(groups)
			key := uint64(0)
			for range 7 * groups {
				b.sameError(b.put(h.entry(key, 1), false), api.ErrFull)
				b.sameError(b.put(h.entry(key, 2), true), nil)
				b.sameError(b.put(h.entry(key, 3), false), nil)
				key++
			}
			for n := range uint64(3) {
				b.sameError(b.put(h.entry(key+n, 1), true), api.ErrFull)
				b.sameError(b.put(h.entry(key+n, 1), false), api.ErrFull)
			}
			for n := range uint64(7 * groups) {
				b.sameError(b.put(h.entry(n, 4), n%2 == 0), nil)
			}
			b.holdAll()
		}
	}
}

// P15.1: deleted slots are no room, if nothing is left.
func TestPutAmongTombs(t *testing.T) {
	b := newBoth(t, "tombs", 0, 0).grown(2)
	b.fill(of(0, 14, 0)).removeAll(of(0, 8, 0))
	same(t, "Tombs", b.x.Tombs(), 8)
	b.sameError(b.put(of(50, 51, 0)[0], true), api.ErrFull)
	b.sameError(b.put(of(50, 51, 0)[0], false), api.ErrFull)
	b.sameError(b.put(of(9, 10, 0)[0], false), nil)
	b.removeAll(of(8, 9, 0))
	b.sameError(b.put(of(50, 51, 0)[0], true), nil)
	same(t, "Tombs", b.x.Tombs(), 7)
	b.job(choose.Sweep)
	same(t, "Tombs", b.x.Tombs(), 0)
	b.fill(of(60, 68, 0))
	b.sameError(b.put(of(70, 71, 0)[0], true), api.ErrFull)
}

// P15.1: as long as the new tables aren't ready the old one's room is asked, and then that of the target alone.
func TestPutWhereNothingIsLeftOfADual(t *testing.T) {
	for _, groups := range []int{1, 2, 8} {
		for _, kind := range kinds() {
			b := newBoth(t, "a full node", 1, 1).grown(groups)
			b.fill(of(0, 7*groups, 1<<63))
			b.start(kind)
			one, other := api.Entry{Key: 1000, Hash: 1<<63 | 5}, api.Entry{Key: 1001, Hash: greatest}
			for !b.s.ready() {
				for _, more := range []bool{false, true} {
					b.sameError(b.put(one, more), api.ErrFull)
					b.sameError(b.put(other, more), api.ErrFull)
					b.sameError(b.put(api.Entry{Key: 3, Val: uint64(b.acts), Hash: 1 << 63}, more), nil)
				}
				b.step()
			}
			room := 7 * len(b.s.fresh[0])
			for n := range uint64(room) {
				e := api.Entry{Key: 1000 + n, Hash: 1<<63 | 5}
				b.sameError(b.put(e, false), api.ErrFull)
				b.sameError(b.put(e, true), nil)
			}
			for _, more := range []bool{false, true} {
				b.sameError(b.put(api.Entry{Key: 2000, Hash: 1<<63 | 5}, more), api.ErrFull)
				b.sameError(b.put(api.Entry{Key: 1000, Val: 7, Hash: 1<<63 | 5}, more), nil)
				b.sameError(b.put(api.Entry{Key: 0, Val: 8, Hash: 1 << 63}, more), nil)
			}
			if kind == choose.Split {
				b.sameError(b.put(api.Entry{Key: 2001, Hash: greatest}, false), api.ErrFull)
				b.sameError(b.put(api.Entry{Key: 2001, Hash: greatest}, true), nil)
			}
			b.holdAll()
		}
	}
}

// P15.1, P15.2: a Step whose target has no room raises ErrBroken; nothing is lost, the job is under way still, and goes on when there is room.
func TestAStepThatPanics(t *testing.T) {
	for _, kind := range []int{choose.Sweep, choose.Split} {
		for extra := 1; extra < 8; extra++ {
			b := newBoth(t, text(extra)+" too many", 0, 0)
			b.fill(of(0, 7, 0)).start(kind)
			for !b.s.ready() {
				b.step()
			}
			b.fill(of(100, 100+extra, 0))
			for range 3 {
				_, panicked := b.step()
				same(t, "whether it panicked", panicked, true)
				same(t, "Left", b.x.Left(), 1)
				same(t, "Done", b.x.Done(), false)
				same(t, "Job", b.x.Job(), kind)
				b.end()
				b.start(kind)
			}
			b.removeAll(of(100, 100+extra, 0))
			b.toTheEnd()
			same(t, "Len", b.x.Len(), 7)
		}
	}
}

// P15.1: a Step that would pass the meter's limit raises ErrLimit, and does nothing.
func TestAMeterWithALimit(t *testing.T) {
	for _, kind := range kinds() {
		b := newBoth(t, "a limit", 0, 0).grown(2)
		b.fill(of(0, 6, 0)).start(kind)
		for b.s.left() > 0 {
			m := &meter.Meter{}
			m.Limit(0)
			for range 2 {
				same(t, "its panic", panicOf(func() { b.x.Step(m) }), panicOf(func() { trap.Raise(api.ErrLimit) }))
				same(t, "counted", m.All(), meter.Counts{})
				b.hold()
			}
			b.step()
		}
		m := &meter.Meter{}
		m.Limit(0)
		same(t, "Step of none", b.x.Step(m), false)
		b.toTheEnd()
	}
}

// state is a node of so many groups that was put so many entries, of which the first ones were let go.
type state struct {
	groups, entries, gone int
}

func states() []state {
	return []state{{1, 0, 0}, {1, 3, 1}, {1, 7, 0}, {2, 9, 3}, {2, 14, 8}, {4, 16, 8}, {8, 40, 20}}
}

func (s state) begin(t *testing.T, what string, h hashing, prefix, depth int) *both {
	t.Helper()
	b := newBoth(t, what+", "+h.name+", "+text(s.groups)+" groups", prefix, depth).grown(s.groups)
	b.h = h.in(prefix, depth)
	list := b.h.entries(0, s.entries)
	return b.quietly(func() { b.fill(list).removeAll(list[:s.gone]) })
}

// eachMoment hands a function a node of each moment: with no job, at each step of a job of each kind, and behind its end. Behind a Split it gets both nodes, one by one.
func eachMoment(t *testing.T, begin func(what string) *both, f func(b *both)) {
	t.Helper()
	f(begin("no job"))
	for _, kind := range kinds() {
		for done := 0; ; done++ {
			b := begin("behind " + text(done) + " steps of " + choose.Word(kind))
			if b.start(kind) != nil {
				break
			}
			for range min(done, b.s.left()) {
				b.step()
			}
			if b.s.steps < done {
				if other, _ := b.end(); other != nil {
					f(other)
				}
				f(b)
				break
			}
			f(b)
		}
	}
}

// P15.1: each call at each moment, of keys in each of the tables, of keys put at that moment, and of keys that aren't there.
func TestEachCallAtEachMoment(t *testing.T) {
	for i, s := range states() {
		for j, h := range hashings() {
			prefix, depth := (i*8+j)%16, 4
			in := h.in(prefix, depth)
			eachMoment(t, func(what string) *both { return s.begin(t, what, h, prefix, depth) }, func(b *both) {
				for key := range uint64(s.entries + 6) {
					e := in.entry(key, uint64(b.acts))
					if !isWithin(e.Hash, b.s.prefix, b.s.depth) || key%3 > 0 && key+6 < uint64(s.entries) {
						continue
					}
					b.find(key, e.Hash)
					b.put(e, key%2 == 0)
					b.put(e, key%2 > 0)
					b.least(e.Hash, key)
					b.remove(key, e.Hash)
					b.remove(key, e.Hash)
					b.find(key, e.Hash)
					b.put(e, false)
					b.put(e, true)
				}
				b.holdAll()
			})
		}
	}
}

// P15.1: Least ahead of, in and behind all entries, at each moment; of entries of one hash, and of hashes on both sides of where the prefix is parted.
func TestLeastAtEachMoment(t *testing.T) {
	list := []api.Entry{
		{Key: 5, Hash: 1 << 63}, {Key: 0, Hash: 1<<63 | 3}, {Key: 7, Hash: 1<<63 | 3}, {Key: greatest, Hash: 1<<63 | 3}, {Key: 1, Hash: 1<<63 | 1<<7},
		{Key: 2, Hash: 3<<62 - 1}, {Key: 3, Hash: 3 << 62}, {Key: 4, Hash: 3<<62 | 1<<7}, {Key: greatest - 1, Hash: greatest}, {Key: 6, Hash: greatest},
	}
	eachMoment(t, func(what string) *both { return newBoth(t, what, 1, 1).grown(2).fill(list) }, func(b *both) {
		for _, e := range list {
			for _, hash := range []uint64{e.Hash - 1, e.Hash, e.Hash + 1} {
				for _, key := range []uint64{0, e.Key - 1, e.Key, e.Key + 1, greatest} {
					b.least(hash, key)
				}
			}
		}
		for len(b.plain) > 0 {
			e := b.all()[0]
			b.least(0, 0)
			b.remove(e.Key, e.Hash)
		}
		b.least(0, 0)
		b.least(greatest, greatest)
	})
}

// P15.1: what is looked at, told in numbers: full groups of the table alone, and of a dual.
func TestWhatIsLookedAt(t *testing.T) {
	m := &meter.Meter{}
	looks := func(f func(l meter.Lens)) int {
		m.Reset()
		f(m.Probing())
		return m.Last().Probes
	}
	// 20 keys of one hash stand in three groups.
	b := newBoth(t, "looks", 0, 0).grown(4).fill(of(0, 20, 0))
	e := of(50, 51, 0)[0]
	same(t, "Find in the first group", looks(func(l meter.Lens) { b.x.Find(l, 0, 0) }), 1)
	same(t, "Find in the third group", looks(func(l meter.Lens) { b.x.Find(l, 19, 0) }), 3)
	same(t, "Find of none", looks(func(l meter.Lens) { b.x.Find(l, 50, 0) }), 3)
	same(t, "Put that is refused", looks(func(l meter.Lens) { b.x.Put(l, e, false) }), 3)
	same(t, "Put of a new key", looks(func(l meter.Lens) { b.x.Put(l, e, true) }), 3)
	same(t, "Put of a key that is there", looks(func(l meter.Lens) { b.x.Put(l, of(9, 10, 0)[0], false) }), 2)
	same(t, "Delete", looks(func(l meter.Lens) { b.x.Delete(l, 50, 0) }), 3)
	same(t, "Least", looks(func(l meter.Lens) { b.x.Least(l, 0, 0) }), 4)
	b.start(choose.Sweep)
	same(t, "Find ahead of the first step", looks(func(l meter.Lens) { b.x.Find(l, 50, 0) }), 3)
	for range 4 {
		b.step()
	}
	same(t, "Find in both", looks(func(l meter.Lens) { b.x.Find(l, 19, 0) }), 1+3)
	same(t, "Put of a new key", looks(func(l meter.Lens) { b.x.Put(l, e, true) }), 1+3)
	same(t, "Put of a key in the target", looks(func(l meter.Lens) { b.x.Put(l, e, true) }), 1)
	same(t, "Least of both", looks(func(l meter.Lens) { b.x.Least(l, 0, 0) }), 8)
	for range 4 {
		b.x.Step(&meter.Meter{})
	}
	same(t, "Find of none in both", looks(func(l meter.Lens) { b.x.Find(l, 51, 0) }), 3+3)
	_, err := b.x.End()
	sameError(t, "End", err, nil)
	same(t, "Find of none behind the end", looks(func(l meter.Lens) { b.x.Find(l, 51, 0) }), 3)
	same(t, "Least behind the end", looks(func(l meter.Lens) { b.x.Least(l, 0, 0) }), 4)
	same(t, "what is counted elsewhere", m.All().Visits+m.All().Units, 0)
}

// wantsIs holds Wants against figures that stand in the test itself, and against None at a job.
func (b *both) wantsIs(global, kind int, double bool) {
	b.t.Helper()
	gotKind, gotDouble := b.x.Wants(global)
	is(b, "Wants at "+text(global), gotKind, kind)
	is(b, "Wants at "+text(global)+", the directory", gotDouble, double)
}

// tombed has a table of so many groups with so many entries and tombs: the entries were put into groups that were full once, tombs and all.
func tombed(t *testing.T, depth, groups, live, tombs int) *both {
	t.Helper()
	b := newBoth(t, text(groups)+" groups, "+text(live)+" entries, "+text(tombs)+" tombs", 0, depth).grown(groups)
	list := of(0, live+tombs, 0)
	b.fill(list).removeAll(list[:tombs])
	same(t, "Len", b.x.Len(), live)
	same(t, "Tombs", b.x.Tombs(), tombs)
	return b
}

// P15.1: a directory's depth below 0, below the node's, the same, and above it.
func TestWantsAtItsEdges(t *testing.T) {
	type want struct {
		kind   int
		double bool
	}
	for _, c := range []struct {
		groups, live, tombs, depth int
		below, at, above           want
	}{
		{1, 3, 0, 2, want{0, false}, want{0, false}, want{0, false}},
		{1, 4, 0, 2, want{2, false}, want{2, false}, want{2, false}},
		{2, 4, 4, 2, want{1, false}, want{1, false}, want{1, false}},
		{2, 8, 0, 2, want{2, false}, want{2, false}, want{2, false}},
		{4, 15, 0, 2, want{0, false}, want{0, false}, want{0, false}},
		{4, 9, 7, 2, want{2, false}, want{2, false}, want{2, false}},
		{4, 8, 8, 2, want{1, false}, want{1, false}, want{1, false}},
		{8, 24, 7, 2, want{0, false}, want{0, false}, want{0, false}},
		{8, 16, 16, 2, want{1, false}, want{1, false}, want{1, false}},
		{8, 17, 15, 2, want{2, false}, want{2, true}, want{3, false}},
		{8, 32, 0, 4, want{2, false}, want{2, true}, want{3, false}},
		{8, 32, 0, 5, want{2, false}, want{2, false}, want{3, false}},
		{32, 128, 0, 3, want{2, false}, want{2, true}, want{3, false}},
		{64, 256, 0, 3, want{1, false}, want{1, true}, want{3, false}},
		{64, 255, 0, 3, want{0, false}, want{0, false}, want{0, false}},
		{64, 128, 128, 3, want{1, false}, want{1, false}, want{1, false}},
	} {
		b := tombed(t, c.depth, c.groups, c.live, c.tombs)
		for _, global := range []int{c.depth - 1, c.depth - 2} {
			b.wantsIs(global, c.below.kind, c.below.double)
		}
		b.wantsIs(c.depth, c.at.kind, c.at.double)
		for _, global := range []int{c.depth + 1, c.depth + 2, 16, math.MaxInt} {
			b.wantsIs(global, c.above.kind, c.above.double)
		}
		for _, global := range []int{-1, -2, math.MinInt, math.MinInt32} {
			b.wantsIs(global, 0, false)
		}
	}
}

// P15.1: while a job is under way nothing is wanted, whatever the directory's depth; behind its end what the new table wants.
func TestWantsWithAJob(t *testing.T) {
	for _, kind := range kinds() {
		b := tombed(t, 0, 8, 32, 0)
		b.wantsIs(0, choose.Grow, true)
		b.wantsIs(1, choose.Split, false)
		b.start(kind)
		for {
			for global := -2; global < 8; global++ {
				b.wantsIs(global, choose.None, false)
			}
			if was, _ := b.step(); !was {
				break
			}
		}
		b.end()
		switch kind {
		case choose.Sweep:
			b.wantsIs(0, choose.Grow, true)
			b.wantsIs(1, choose.Split, false)
		case choose.Grow:
			b.wantsIs(0, choose.None, false)
		case choose.Split:
			// All keys have one hash, and the depth is 1 now.
			b.wantsIs(0, choose.Grow, false)
			b.wantsIs(1, choose.Grow, true)
			b.wantsIs(2, choose.Split, false)
		}
	}
}

// P15.1: all entries and tombs that one hash can make, at all depths of the node and its directory.
func TestWantsOfManyTables(t *testing.T) {
	for _, groups := range sizes() {
		for depth := range 6 {
			// What is put fills half of the groups or more.
			all := of(0, 4*groups+depth*groups/2, 0)
			b := newBoth(t, text(groups)+" groups at depth "+text(depth), 0, depth).grown(groups).fill(all)
			for _, e := range all {
				for global := -2; global < 8; global++ {
					b.wants(global)
				}
				b.remove(e.Key, e.Hash)
			}
		}
	}
}

// P15.1: of no kind, and of a kind that its table or its depth can't have; what is refused changes nothing.
func TestStartThatIsRefused(t *testing.T) {
	for _, groups := range sizes() {
		for depth := range 6 {
			b := newBoth(t, text(groups)+" groups, depth "+text(depth), 0, depth).grown(groups).fill(of(0, 3, 0))
			for _, kind := range numbers() {
				if kind < choose.Sweep || kind > choose.Split {
					b.sameError(b.start(kind), api.ErrKind)
				}
			}
			for _, kind := range kinds() {
				var want error
				if kind == choose.Grow && groups == 64 || kind == choose.Split && depth == 5 {
					want = api.ErrRange
				}
				b.sameError(b.start(kind), want)
				if want == nil {
					break
				}
				b.find(1, 0)
			}
			b.toTheEnd()
			b.holdAll()
		}
	}
}

// P15.1: the edges that the chapter names, in figures.
func TestStartAtItsEdges(t *testing.T) {
	b := newBoth(t, "the greatest table", 31, 5).grown(32)
	b.sameError(b.x.Start(choose.Split), api.ErrRange)
	b.sameError(b.x.Start(choose.Split+1), api.ErrKind)
	b.sameError(b.x.Start(choose.None), api.ErrKind)
	b.sameError(b.x.Start(-1), api.ErrKind)
	b.job(choose.Grow)
	same(t, "Groups", b.x.Groups(), 64)
	b.sameError(b.x.Start(choose.Grow), api.ErrRange)
	b.sameError(b.x.Start(choose.Split), api.ErrRange)
	b.sameError(b.x.Start(0), api.ErrKind)
	b.sameError(b.x.Start(4), api.ErrKind)
	b.hold()
	b.job(choose.Sweep)
	same(t, "Groups", b.x.Groups(), 64)

	b = newBoth(t, "one below the greatest depth", 15, 4).grown(64)
	b.sameError(b.x.Start(choose.Grow), api.ErrRange)
	other := b.job(choose.Split)
	for n, each := range []*both{b, other} {
		prefix, depth := each.x.Prefix()
		same(t, "the prefix", prefix, 30+n)
		same(t, "the depth", depth, 5)
		same(t, "Groups", each.x.Groups(), 64)
		each.sameError(each.x.Start(choose.Split), api.ErrRange)
		each.job(choose.Sweep)
	}
}

// P15.1: while a job is under way ErrState comes ahead of all that is wrong of the kind, until its end.
func TestStartWhileAJobIsUnderWay(t *testing.T) {
	for _, depth := range []int{0, 5} {
		for _, groups := range []int{1, 8, 64} {
			for _, kind := range kinds() {
				b := newBoth(t, "a job", 0, depth).grown(groups).fill(of(0, 3, 0))
				if b.start(kind) != nil {
					continue
				}
				for {
					for _, again := range []int{math.MinInt, -1, 0, 1, 2, 3, 4, math.MaxInt} {
						b.sameError(b.x.Start(again), api.ErrState)
					}
					b.hold()
					if was, _ := b.step(); !was {
						break
					}
				}
				b.end()
				b.sameError(b.start(-1), api.ErrKind)
				b.job(choose.Sweep)
			}
		}
	}
}

// P15.1: Left, Done, Job, Len, Tombs and Groups beside each step, in figures; an End and a Start ahead of the last one do nothing.
func TestStepByStep(t *testing.T) {
	for _, groups := range sizes() {
		for _, c := range []struct{ kind, steps, groups, each int }{{1, 2 * groups, 2 * groups, groups}, {2, 3 * groups, 3 * groups, 2 * groups}, {3, 3 * groups, 3 * groups, groups}} {
			if c.kind == choose.Grow && groups == 64 {
				continue
			}
			b := newBoth(t, text(groups)+" groups, "+choose.Word(c.kind), 0, 0).grown(groups)
			list := of(0, 4*groups, 0)
			b.fill(list).removeAll(list[:groups])
			tombs := min(groups, 4*groups/8*8)
			b.beside(0, false, choose.None, 3*groups, tombs, groups)
			same(t, "Step with no job", b.x.Step(b.m), false)
			b.sameError(b.start(c.kind), nil)
			for n := range c.steps {
				b.beside(c.steps-n, false, c.kind, 3*groups, 0, c.groups)
				_, ended := b.end()
				same(t, "whether it ended", ended, false)
				was, _ := b.step()
				same(t, "Step", was, true)
			}
			for range 3 {
				b.beside(0, true, c.kind, 3*groups, 0, c.groups)
				was, _ := b.step()
				same(t, "Step", was, false)
			}
			_, ended := b.end()
			same(t, "whether it ended", ended, true)
			for range 3 {
				b.beside(0, false, choose.None, 3*groups, 0, c.each)
				was, _ := b.step()
				same(t, "Step", was, false)
				_, ended = b.end()
				same(t, "whether it ended twice", ended, false)
			}
		}
	}
}

func (b *both) beside(left int, done bool, job, len, tombs, groups int) {
	b.t.Helper()
	is(b, "Left", b.x.Left(), left)
	is(b, "Done", b.x.Done(), done)
	is(b, "Job", b.x.Job(), job)
	is(b, "Len", b.x.Len(), len)
	is(b, "Tombs", b.x.Tombs(), tombs)
	is(b, "Groups", b.x.Groups(), groups)
}

// P15.1: a meter may have counted before, and isn't reset.
func TestAMeterThatHasCounted(t *testing.T) {
	b := newBoth(t, "a meter", 0, 0)
	b.fill(append(of(0, 3, 0), of(3, 5, 1<<63)...)).start(choose.Split)
	m := &meter.Meter{}
	m.Unit(5)
	m.Probing().Visit()
	for range 2 {
		same(t, "Step", b.x.Step(m), true)
	}
	same(t, "last", m.Last(), meter.Counts{Probes: 1, Visits: 2, Units: 7})
	same(t, "Step", b.x.Step(m), true)
	same(t, "Step", b.x.Step(m), false)
	same(t, "all", m.All(), meter.Counts{Probes: 1, Visits: 2 + 1 + 5, Units: 8})
}

// P15.1: with no job, and ahead of the last step.
func TestEndTooEarly(t *testing.T) {
	for _, s := range states() {
		for _, kind := range kinds() {
			b := s.begin(t, "too early", hashings()[7], 2, 3)
			for range 2 {
				other, err := b.x.End()
				b.sameError(err, api.ErrState)
				is(b, "the node that is answered", other, nil)
			}
			b.start(kind)
			for b.s.left() > 0 {
				for range 2 {
					other, err := b.x.End()
					b.sameError(err, api.ErrState)
					is(b, "the node that is answered", other, nil)
				}
				b.step()
			}
			b.toTheEnd()
			other, err := b.x.End()
			b.sameError(err, api.ErrState)
			is(b, "the node that is answered", other, nil)
		}
	}
}

// P15.1: the table, the prefix and the depth behind the end of each kind.
func TestEndOfEachKind(t *testing.T) {
	for depth := range 6 {
		for _, prefix := range []int{0, 1<<depth - 1} {
			for _, groups := range sizes() {
				for _, kind := range kinds() {
					b := newBoth(t, choose.Word(kind)+" at depth "+text(depth), prefix, depth).grown(groups)
					b.fill(hashings()[7].in(prefix, depth).entries(0, 5*groups))
					if b.start(kind) != nil {
						continue
					}
					old := b.x.table
					other := b.toTheEnd()
					same(t, "the old table's length", old.Len(), 0)
					if kind == choose.Split {
						b.isHalf(2*prefix, depth+1, groups)
						other.isHalf(2*prefix+1, depth+1, groups)
						same(t, "Len of both", b.x.Len()+other.x.Len(), 5*groups)
						continue
					}
					b.isHalf(prefix, depth, kind*groups)
					same(t, "whether there is another node", other == nil, true)
				}
			}
		}
	}
}

func (b *both) isHalf(prefix, depth, groups int) {
	b.t.Helper()
	gotPrefix, gotDepth := b.x.Prefix()
	is(b, "the prefix", gotPrefix, prefix)
	is(b, "the depth", gotDepth, depth)
	is(b, "Groups", b.x.Groups(), groups)
	is(b, "Job", b.x.Job(), choose.None)
	is(b, "Left", b.x.Left(), 0)
	is(b, "Done", b.x.Done(), false)
	is(b, "whether there is a table", b.x.table != nil, true)
	b.holdAll()
}

// P15.1: the bit behind the prefix alone parts the hashes: of each depth the hashes that have just that bit, or all others, behind the prefix.
func TestTheBitThatParts(t *testing.T) {
	for depth := range 5 {
		prefix := 1<<depth - 1
		low := uint64(prefix) << (64 - depth)
		b := newBoth(t, "the bit behind depth "+text(depth), prefix, depth).grown(16)
		var list []api.Entry
		for i := depth; i < 30; i++ {
			bit := uint64(1) << (63 - i)
			list = append(list, api.Entry{Key: uint64(i), Hash: low | bit}, api.Entry{Key: uint64(100 + i), Hash: ^bit})
		}
		other := b.fill(list).job(choose.Split)
		_, has := other.x.Find(meter.Lens{}, uint64(depth), low|1<<(63-depth))
		same(t, "whether the other half has the bit alone", has, true)
		_, has = b.x.Find(meter.Lens{}, uint64(100+depth), ^(1 << (63 - depth)))
		same(t, "whether this half has all other bits", has, true)
		same(t, "Len", b.x.Len(), 30-depth)
		same(t, "Len of the other half", other.x.Len(), 30-depth)
	}
}

// P15.1, P15.2: two nodes behind a Split have each its own table and its own jobs, and a Split of each goes on.
func TestTwoNodesBehindASplit(t *testing.T) {
	for _, h := range hashings() {
		b := newBoth(t, h.name, 0, 0).grown(2)
		list := h.entries(0, 10)
		other := b.fill(list).job(choose.Split)
		for _, kind := range kinds() {
			b.sameError(b.start(kind), nil)
			other.hold()
			for b.s.left() > 0 {
				b.step()
				b.write(h, 20)
				other.hold()
				other.write(h, 20)
				b.hold()
				other.step()
				if other.s.done() {
					other.end()
				} else {
					other.start(choose.Sweep)
				}
				b.hold()
			}
			b.end()
		}
	}
}

// write puts and deletes a key of the node's own prefix, if there is one below that number.
func (b *both) write(h hashing, below int) {
	b.t.Helper()
	for n := range below {
		key := uint64((n + b.acts) % below)
		if isWithin(h.of(key), b.s.prefix, b.s.depth) {
			b.put(h.entry(key, uint64(b.acts)), true)
			b.remove(key, h.of(key))
			return
		}
	}
}

// P15.1, P15.2: nodes that are parted until no Split may be: 32 nodes, whose prefixes are all of that depth; each entry is in the one of its prefix.
func TestSplitsDownToTheGreatestDepth(t *testing.T) {
	for _, h := range hashings() {
		first := newBoth(t, h.name+", many nodes", 0, 0).grown(8).fill(h.entries(0, 50))
		before := first.all()
		nodes := []*both{first}
		for depth := range 5 {
			for _, each := range slices.Clone(nodes) {
				same(t, "the depth", each.s.depth, depth)
				nodes = append(nodes, each.job(choose.Split))
			}
		}
		same(t, "how many nodes", len(nodes), 32)
		var after []api.Entry
		prefixes := map[int]bool{}
		for _, each := range nodes {
			each.sameError(each.start(choose.Split), api.ErrRange)
			prefix, depth := each.x.Prefix()
			same(t, "the depth", depth, 5)
			prefixes[prefix] = true
			after = append(after, through(each.x)...)
		}
		same(t, "how many prefixes", len(prefixes), 32)
		slices.SortFunc(after, inOrder)
		same(t, "whether all that was there is there", slices.Equal(after, before), true)
	}
}

// P15.1: the table behind an end is the new one: what tombs the old one had are gone, and its length is the node's.
func TestATableWithTombsIsMoved(t *testing.T) {
	for _, kind := range kinds() {
		b := tombed(t, 0, 4, 8, 16)
		same(t, "Tombs", b.x.Tombs(), 16)
		b.start(kind)
		same(t, "Tombs at a job", b.x.Tombs(), 0)
		b.toTheEnd()
		same(t, "Tombs behind its end", b.x.Tombs(), 0)
		same(t, "Len behind its end", b.x.Len(), 8)
		b.removeAll(b.all())
		// The eight entries stood in one group, which was full.
		same(t, "Tombs behind Deletes", b.x.Tombs(), 8)
	}
}

// P15.1: several nodes have each its own table, of New and of End alike.
func TestSeveralNodes(t *testing.T) {
	one, other := newBoth(t, "the one", 0, 0), newBoth(t, "the other", 0, 0)
	for n := range 40 {
		one.put(of(n, n+1, 0)[0], true)
		other.hold()
		other.put(of(n, n+1, 1<<63)[0], true)
		one.hold()
		for _, each := range []*both{one, other} {
			if kind, _ := each.x.Wants(0); kind != choose.None {
				each.start(kind)
			}
			if was, _ := each.step(); !was {
				each.end()
			}
		}
	}
	same(t, "Len", one.x.Len(), 40)
	same(t, "Len", other.x.Len(), 40)
}

// P15.2: a node that does what it wants behind each write never is without room, and never panics.
func TestWhatIsWantedIsDone(t *testing.T) {
	for _, h := range hashings() {
		b := newBoth(t, h.name+", what is wanted", 0, 0)
		most := 0
		for n := range uint64(300) {
			b.sameError(b.put(h.entry(n%120, n), true), nil)
			if n%3 > 0 {
				b.remove(n*7%120, h.of(n*7%120))
			}
			if kind, _ := b.x.Wants(0); kind != choose.None {
				b.sameError(b.start(kind), nil)
			}
			for range 8 {
				_, panicked := b.step()
				is(b, "whether a step panicked", panicked, false)
			}
			b.end()
			most = max(most, b.x.Groups())
		}
		if most < 16 {
			t.Fatalf("%s: too little was seen: %d groups", h.name, most)
		}
	}
}

// ifOwn does an act of a key, if its hash is of the node's prefix still.
func (b *both) ifOwn(key uint64, act func(e api.Entry)) {
	if e := b.h.entry(key, uint64(b.acts)); isWithin(e.Hash, b.s.prefix, b.s.depth) {
		act(e)
	}
}

// P15.1, P15.2: all orders of a few acts on small nodes: new ones, ones with entries, full ones, ones with tombs, and ones whose Split is refused; with no job, at each step of each job, and behind its end.
func TestAllShortOrders(t *testing.T) {
	acts := []func(b *both){
		func(b *both) { b.start(choose.Sweep) },
		func(b *both) { b.start(choose.Grow) },
		func(b *both) { b.start(choose.Split) },
		func(b *both) { b.step() },
		func(b *both) { b.end() },
		func(b *both) { b.ifOwn(1, func(e api.Entry) { b.put(e, false) }) },
		func(b *both) { b.ifOwn(50, func(e api.Entry) { b.put(e, true) }) },
		func(b *both) { b.ifOwn(1, func(e api.Entry) { b.remove(e.Key, e.Hash) }) },
		func(b *both) { b.least(0, 0) },
	}
	ends := 0
	for _, c := range []struct {
		s    state
		long int
	}{{state{1, 0, 0}, 3}, {state{1, 3, 0}, 4}, {state{1, 7, 0}, 3}, {state{2, 14, 8}, 3}} {
		for order := range pow(len(acts), c.long) {
			depth := 4 + order%5/4 // mostly 4, sometimes 5, where no Split may be
			eachMoment(t, func(what string) *both { return c.s.begin(t, what, hashings()[5], depth-2, depth) }, func(b *both) {
				left := order
				for range c.long {
					job := b.s.job
					acts[left%len(acts)](b)
					left /= len(acts)
					if job > 0 && b.s.job == 0 {
						ends++
					}
				}
				b.holdAll()
			})
		}
	}
	if ends < 1000 {
		t.Fatalf("too little was seen: %d ends", ends)
	}
}

func pow(n, times int) int {
	p := 1
	for range times {
		p *= n
	}
	return p
}

// family is the nodes that came of one by Splits, and one plain map of all.
type family struct {
	t     *testing.T
	h     hashing
	nodes []*both
	plain map[uint64]api.Entry
}

// of is the node whose prefix a hash has; just one may have it.
func (f *family) of(hash uint64) *both {
	f.t.Helper()
	var of *both
	many := 0
	for _, each := range f.nodes {
		prefix, depth := each.x.Prefix()
		if isWithin(hash, prefix, depth) {
			of = each
			many++
		}
	}
	same(f.t, "how many nodes a hash has", many, 1)
	return of
}

// hold holds that all nodes together have just what the one would have.
func (f *family) hold() {
	f.t.Helper()
	var list []api.Entry
	for _, each := range f.nodes {
		list = append(list, through(each.x)...)
	}
	slices.SortFunc(list, inOrder)
	want := slices.SortedFunc(maps.Values(f.plain), inOrder)
	if !slices.Equal(list, want) {
		f.t.Fatalf("%s: all nodes have %v, not %v", f.h.name, list, want)
	}
}

// seen is what long orders came to, so that a test can tell that they came to enough.
type seen struct {
	full, panics, ends, splits, refused, wanted, most int
}

// act does any act that may come, of a key that may be there.
func (f *family) act(next func(below int) int, keys int, n *seen) {
	f.t.Helper()
	key := uint64(next(keys))
	e := f.h.entry(key, uint64(next(1000)))
	b := f.of(e.Hash)
	switch next(16) {
	case 0, 1, 2, 3:
		if b.put(e, next(8) > 0) == nil {
			f.plain[key] = e
		} else {
			n.full++
		}
	case 4, 5, 6:
		b.remove(key, e.Hash)
		delete(f.plain, key)
	case 7:
		b.find(key, e.Hash)
	case 8:
		b.least(e.Hash, key)
	case 9:
		if b.start(next(6)-1) != nil {
			n.refused++
		}
	case 10:
		if kind, _ := b.x.Wants(next(7)); kind != choose.None {
			b.start(kind)
			n.wanted++
		}
	case 11:
		f.end(b, n)
	default:
		if _, panicked := b.step(); panicked {
			n.panics++
		}
	}
	n.most = max(n.most, b.x.Groups())
}

func (f *family) end(b *both, n *seen) {
	f.t.Helper()
	other, ended := b.end()
	if ended {
		n.ends++
	}
	if other != nil {
		f.nodes = append(f.nodes, other)
		n.splits++
	}
}

// P15.1, P15.2: long orders of all acts, in which jobs of all kinds begin, are stepped and end at any moment; behind a Split each hash is asked of the node whose prefix it has.
func TestLongOrders(t *testing.T) {
	next := some()
	n := &seen{}
	for _, h := range hashings() {
		for round := range 12 {
			prefix := next(1 << (round % 6))
			in := h.in(prefix, round%6)
			f := &family{t: t, h: in, nodes: []*both{newBoth(t, h.name+", a long order", prefix, round%6)}, plain: map[uint64]api.Entry{}}
			keys := 5 + 20*(round/3)
			for i := range 500 {
				f.act(next, keys, n)
				if i%16 == 0 {
					f.hold()
				}
			}
			for _, each := range f.nodes {
				each.holdAll()
			}
			f.hold()
		}
	}
	if n.full < 1000 || n.panics < 30 || n.ends < 500 || n.splits < 100 || n.refused < 1000 || n.wanted < 30 || n.most < 48 {
		t.Fatalf("too little was seen: %+v", *n)
	}
}

// P15.2: neither a step nor the beginning nor the end of a job changes what is there: all sizes and kinds, hostile hashes, and tables with tombs, moved from the first step to the end with no write between.
func TestNoJobChangesTheMap(t *testing.T) {
	next := some()
	for _, groups := range sizes() {
		for _, h := range hashings() {
			for _, kind := range kinds() {
				prefix, depth := next(8), 3
				b := newBoth(t, h.name+", "+choose.Word(kind), prefix, depth).grown(groups)
				list := h.in(prefix, depth).entries(0, 4*groups)
				b.fill(list)
				for _, e := range list {
					if next(3) == 0 {
						b.remove(e.Key, e.Hash)
					}
				}
				before := through(b.x)
				is(b, "whether the plain map has that", slices.Equal(before, b.all()), true)
				if b.start(kind) != nil {
					continue
				}
				for b.s.left() > 0 {
					// Going through all of a great node at each step takes too long.
					if groups < 16 || b.s.left()%8 == 0 {
						b.holdAll()
					}
					b.step()
				}
				is(b, "whether the steps changed it", slices.Equal(through(b.x), before), true)
				b.end()
			}
		}
	}
}

// P15.1: the node that End answers is one of its own, and shares no table with this one.
func TestAHalfThatIsAnswered(t *testing.T) {
	x, err := New(0, 0)
	sameError(t, "New", err, nil)
	for n := range uint64(4) {
		_, err := x.Put(meter.Lens{}, api.Entry{Key: n, Val: n, Hash: n << 62}, true)
		sameError(t, "Put", err, nil)
	}
	sameError(t, "Start", x.Start(choose.Split), nil)
	for x.Step(&meter.Meter{}) {
	}
	other, err := x.End()
	sameError(t, "End", err, nil)
	var tables []*table.Table
	for _, each := range []*Node{x, other} {
		same(t, "Len", each.Len(), 2)
		tables = append(tables, each.table)
	}
	same(t, "whether both have one table", tables[0] == tables[1], false)
	e, is := other.Delete(meter.Lens{}, 3, 3<<62)
	same(t, "Delete", e, api.Entry{Key: 3, Val: 3, Hash: 3 << 62})
	same(t, "whether it was there", is, true)
	same(t, "Len", x.Len(), 2)
	same(t, "Len of the other half", other.Len(), 1)
}
