package sound

import (
	"errors"
	"math"
	"reflect"
	"slices"
	"strconv"
	"testing"

	"ambler/api"
	"ambler/meter"
	"ambler/table"
)

// The tests hold each call against a slow table: a list of groups of eight slots each, gone through one by one, with no layer below. What a table says of its slots the slow one counts along, so that it may be wrong there, too.

const (
	lanes    = 8
	greatest = math.MaxUint64
	nowhere  = uint64(0xABCDEF0123) // a key that no test puts
)

type slot struct {
	sign byte // '.', 'x' or '#'
	e    api.Entry
}

type slow struct {
	groups     [][lanes]slot
	len, tombs int
}

func newSlow(groups int) *slow {
	s := &slow{groups: make([][lanes]slot, groups)}
	for g := range groups {
		s.clear(g)
	}
	return s
}

func (s *slow) clear(g int) {
	for i := range lanes {
		s.groups[g][i] = slot{sign: '.'}
	}
}

func (s *slow) left() int { return 7*len(s.groups) - s.len - s.tombs }

// walk adds 1, 2, 3 .. one by one.
func (s *slow) walk(hash uint64) []int {
	n := uint64(len(s.groups))
	place := hash / 128 % n
	var places []int
	for i := range n {
		place = (place + i) % n
		places = append(places, int(place))
	}
	return places
}

func (s *slow) has(g int, sign byte) int {
	n := 0
	for _, each := range s.groups[g] {
		if each.sign == sign {
			n++
		}
	}
	return n
}

func (s *slow) isOpen(g int) bool { return s.has(g, '.') > 0 }

// seek is the place of a key, and how many groups are looked at for it; of a key that isn't found the slot is -1. Of one key there may be two hashes: then the lower part tells which of its slots are seen.
func (s *slow) seek(key, hash uint64) (g, i, looks int) {
	for n, g := range s.walk(hash) {
		for i, each := range s.groups[g] {
			if each.sign == '#' && each.e.Key == key && each.e.Hash%128 == hash%128 {
				return g, i, n + 1
			}
		}
		if s.isOpen(g) {
			return 0, -1, n + 1
		}
	}
	return 0, -1, len(s.groups)
}

func (s *slow) put(e api.Entry) error {
	if g, i, _ := s.seek(e.Key, e.Hash); i >= 0 {
		s.groups[g][i].e.Val = e.Val
		return nil
	}
	if s.left() < 1 {
		return api.ErrFull
	}
	for _, g := range s.walk(e.Hash) {
		for i, each := range s.groups[g] {
			if each.sign == '#' {
				continue
			}
			if each.sign == 'x' {
				s.tombs--
			}
			s.len++
			s.groups[g][i] = slot{'#', e}
			return nil
		}
	}
	return api.ErrFull
}

func (s *slow) erase(g, i int) {
	s.groups[g][i].sign = '#'
	sign := byte('x')
	if s.isOpen(g) {
		sign = '.'
	} else {
		s.tombs++
	}
	s.len--
	s.groups[g][i] = slot{sign: sign}
}

func (s *slow) remove(key, hash uint64) bool {
	g, i, _ := s.seek(key, hash)
	if i >= 0 {
		s.erase(g, i)
	}
	return i >= 0
}

func (s *slow) take(g int) {
	for i := range lanes {
		if s.groups[g][i].sign == '#' {
			s.erase(g, i)
		}
	}
}

func (s *slow) entries() []api.Entry {
	var list []api.Entry
	for _, g := range s.groups {
		for _, each := range g {
			if each.sign == '#' {
				list = append(list, each.e)
			}
		}
	}
	return list
}

func (s *slow) path(hash uint64) []int {
	var path []int
	for _, g := range s.walk(hash) {
		path = append(path, g)
		if s.isOpen(g) {
			return path
		}
	}
	return path
}

func (s *slow) shape() Shape {
	var x Shape
	for g := range s.groups {
		x.Full += s.has(g, '#')
		x.Deleted += s.has(g, 'x')
		x.Empty += s.has(g, '.')
		if s.isOpen(g) {
			x.Open++
		}
	}
	for _, e := range s.entries() {
		_, _, looks := s.seek(e.Key, e.Hash)
		if looks > x.Longest {
			x.Longest = looks
		}
		x.Sum += looks
	}
	return x
}

func (s *slow) isSound() bool {
	x := s.shape()
	if x.Full != s.len || x.Deleted != s.tombs || s.left() < 0 {
		return false
	}
	var keys []uint64
	for _, e := range s.entries() {
		g, i, _ := s.seek(e.Key, e.Hash)
		if i < 0 || s.groups[g][i].e != e {
			return false
		}
		keys = append(keys, e.Key)
	}
	slices.Sort(keys)
	return len(slices.Compact(keys)) == x.Full
}

func (s *slow) check() error {
	if !s.isSound() {
		return api.ErrBroken
	}
	return nil
}

// picture is all that a table's own calls tell of it.
type picture struct {
	text                     []string
	entries                  [][]api.Entry
	groups, len, tombs, left int
	least, greatest          api.Entry
	isLeast, isGreatest      bool
	refused                  bool
}

func pictureOf(x *table.Table) picture {
	p := picture{text: x.Text(), groups: x.Groups(), len: x.Len(), tombs: x.Tombs(), left: x.Left()}
	for g := range x.Groups() {
		list, err := x.Scan(meter.Lens{}, g)
		p.entries = append(p.entries, list)
		p.refused = p.refused || err != nil
	}
	p.least, p.isLeast = x.Least(meter.Lens{}, 0, 0)
	p.greatest, p.isGreatest = x.Least(meter.Lens{}, greatest, greatest)
	return p
}

// both is a table, and a slow one of which each is given what the other is.
type both struct {
	t      *testing.T
	what   string
	x      *table.Table
	s      *slow
	m      *meter.Meter
	works  bool // whether its lens counts visits, not probes
	broken bool // whether it may be broken: else it must be sound
}

func newBoth(t *testing.T, groups int, what string) *both {
	t.Helper()
	return &both{t: t, what: what + ", " + strconv.Itoa(groups) + " groups", x: makeNew(t, groups), s: newSlow(groups), m: &meter.Meter{}}
}

func makeNew(t *testing.T, groups int) *table.Table {
	t.Helper()
	x, err := table.New(groups)
	sameError(t, "New", err, nil)
	return x
}

func makeRaw(t *testing.T, groups int) *table.Table {
	t.Helper()
	x, err := table.Raw(groups)
	sameError(t, "Raw", err, nil)
	return x
}

func (b *both) lens() meter.Lens {
	if b.works {
		return b.m.Working()
	}
	return b.m.Probing()
}

func (b *both) put(e api.Entry) {
	b.t.Helper()
	_, err := b.x.Put(b.lens(), e)
	sameError(b.t, b.what+", Put", err, b.s.put(e))
	b.hold("Put of " + text(e.Key))
}

func (b *both) remove(key, hash uint64) {
	b.t.Helper()
	_, is := b.x.Delete(b.lens(), key, hash)
	same(b.t, b.what+", Delete", is, b.s.remove(key, hash))
	b.hold("Delete of " + text(key))
}

func (b *both) take(g int) {
	b.t.Helper()
	_, err := b.x.Take(b.lens(), g)
	sameError(b.t, b.what+", Take", err, nil)
	b.s.take(g)
	b.hold("Take of group " + strconv.Itoa(g))
}

// prepare of a group that isn't one without entries is what leaves a table broken.
func (b *both) prepare(g int) {
	b.t.Helper()
	sameError(b.t, b.what+", Prepare", b.x.Prepare(b.lens(), g), nil)
	b.s.clear(g)
	b.hold("Prepare of group " + strconv.Itoa(g))
}

func (b *both) replace(key, hash, val uint64) {
	b.t.Helper()
	s := b.x.Seek(b.lens(), key, hash)
	b.hold("Seek of " + text(key))
	g, i, _ := b.s.seek(key, hash)
	want := api.ErrNone
	if i >= 0 {
		b.s.groups[g][i].e.Val, want = val, nil
	}
	sameError(b.t, b.what+", Replace", s.Replace(val), want)
	b.hold("Replace of " + text(key))
}

// place has the calls asked between the spot and what is placed there: so a spot, too, holds behind them.
func (b *both) place(e api.Entry) {
	b.t.Helper()
	s := b.x.Seek(b.lens(), e.Key, e.Hash)
	b.hold("Seek of " + text(e.Key))
	want := api.ErrDup
	if _, i, _ := b.s.seek(e.Key, e.Hash); i < 0 {
		want = b.s.put(e)
	}
	sameError(b.t, b.what+", Place", s.Place(e), want)
	b.hold("Place of " + text(e.Key))
}

func (b *both) letGo(key, hash uint64) {
	b.t.Helper()
	s := b.x.Seek(b.lens(), key, hash)
	b.hold("Seek of " + text(key))
	want := api.ErrNone
	if b.s.remove(key, hash) {
		want = nil
	}
	sameError(b.t, b.what+", Remove", s.Remove(), want)
	b.hold("Remove of " + text(key))
}

// hold holds each call against the slow table, and what was there ahead of the calls against what is there behind them.
func (b *both) hold(what string) {
	b.t.Helper()
	what = b.what + ", behind " + what
	before, all, last := pictureOf(b.x), b.m.All(), b.m.Last()
	err := Check(b.x)
	sameError(b.t, what+", Check", err, b.s.check())
	if !b.broken {
		sameError(b.t, what+", Check", err, nil)
	}
	same(b.t, what+", Look", Look(b.x), b.s.shape())
	for home := range b.s.groups {
		hash := uint64(home)<<7 | uint64(37*home%128)
		sameList(b.t, what+", Path of "+text(hash), Path(b.x, hash), b.s.path(hash))
	}
	same(b.t, what+", all counts", b.m.All(), all)
	same(b.t, what+", last counts", b.m.Last(), last)
	if after := pictureOf(b.x); !reflect.DeepEqual(before, after) {
		b.t.Fatalf("%s: the table was changed: %v, not %v", what, after, before)
	}
}

func text(n uint64) string { return "0x" + strconv.FormatUint(n, 16) }

func same[T comparable](t *testing.T, what string, got, want T) {
	t.Helper()
	if got != want {
		t.Fatalf("%s: %v, not %v", what, got, want)
	}
}

func sameList[T comparable](t *testing.T, what string, got, want []T) {
	t.Helper()
	if !slices.Equal(got, want) {
		t.Fatalf("%s: %v, not %v", what, got, want)
	}
}

// sameError asks by ==, not by errors.Is alone: the promise is that error, not one around it.
func sameError(t *testing.T, what string, got, want error) {
	t.Helper()
	if got == nil || want == nil {
		if got != nil || want != nil {
			t.Fatalf("%s: %v, not %v", what, got, want)
		}
		return
	}
	if got != want || !errors.Is(got, want) {
		t.Fatalf("%s: %v, not %v", what, got, want)
	}
}

// sizes are all numbers of groups that a table may have.
func sizes() []int { return []int{1, 2, 4, 8, 16, 32, 64} }

// hashing tells the hash of each key, always the same one.
type hashing struct {
	name string
	of   func(key uint64) uint64
}

// hashings gives hostile ones, too: one hash for all keys, one walk or one lower part for all.
func hashings() []hashing {
	return []hashing{
		{"one hash", func(uint64) uint64 { return 0x0123456789ABCDEF }},
		{"no hash", func(uint64) uint64 { return 0 }},
		{"the greatest hash", func(uint64) uint64 { return greatest }},
		{"one walk", func(key uint64) uint64 { return 5<<7 | key%128 }},
		{"one lower part", func(key uint64) uint64 { return key<<7 | 0x2A }},
		{"two walks", func(key uint64) uint64 { return key%2<<7 | key%3 }},
		{"the key", func(key uint64) uint64 { return key }},
		{"few", func(key uint64) uint64 { return key % 7 * 0x1234567 }},
		{"spread", func(key uint64) uint64 { return (key + 1) * 0x9E3779B97F4A7C15 }},
	}
}

// some gives numbers without a pattern.
func some() func(below int) int {
	x := uint64(88172645463325252)
	return func(below int) int {
		x ^= x << 13
		x ^= x >> 7
		x ^= x << 17
		return int(x >> 11 % uint64(below))
	}
}

// lay puts keys from 0 on, without a look at all that is told behind each.
func (b *both) lay(keys uint64, h hashing) {
	b.t.Helper()
	for key := range keys {
		e := api.Entry{Key: key, Val: 3 * key, Hash: h.of(key)}
		_, err := b.x.Put(b.lens(), e)
		sameError(b.t, b.what+", laid", err, b.s.put(e))
	}
}

// P10.1
func TestTheExample(t *testing.T) {
	x := makeNew(t, 1)
	for key := range uint64(3) {
		x.Put(meter.Lens{}, api.Entry{Key: key, Val: 9, Hash: 77 * key})
	}
	same(t, "Look", Look(x), Shape{3, 0, 5, 1, 1, 3})
	sameError(t, "Check", Check(x), nil)
	sameList(t, "Path", Path(x, 5<<7), []int{0})
}

// P10.1
func TestOfNil(t *testing.T) {
	sameError(t, "Check", Check(nil), api.ErrNone)
	same(t, "Look", Look(nil), Shape{})
	for _, hash := range []uint64{0, 1, 127, 128, 1 << 63, greatest} {
		sameList(t, "Path", Path(nil, hash), nil)
	}
}

// P10.1: of each size; new, and prepared in an order of its own.
func TestATableWithoutEntries(t *testing.T) {
	for _, groups := range sizes() {
		raw := makeRaw(t, groups)
		for g := range groups {
			sameError(t, "Prepare", raw.Prepare(meter.Lens{}, groups-1-g), nil)
		}
		for _, x := range []*table.Table{makeNew(t, groups), raw} {
			sameError(t, "Check", Check(x), nil)
			same(t, "Look", Look(x), Shape{Empty: 8 * groups, Open: groups})
			for home := range groups {
				sameList(t, "Path", Path(x, uint64(home)<<7), []int{home})
			}
			sameList(t, "Path", Path(x, greatest), []int{groups - 1})
		}
	}
}

// P10.1: one group, with 0 to 7 entries, and behind each that goes again.
func TestATableOfOneGroup(t *testing.T) {
	for _, h := range hashings() {
		b := newBoth(t, 1, h.name)
		for key := range uint64(7) {
			b.put(api.Entry{Key: key, Val: key, Hash: h.of(key)})
			n := int(key) + 1
			same(t, b.what, Look(b.x), Shape{Full: n, Empty: 8 - n, Open: 1, Longest: 1, Sum: n})
			sameList(t, b.what, Path(b.x, h.of(key)), []int{0})
		}
		b.put(api.Entry{Key: 7, Hash: h.of(7)})
		for key := range uint64(7) {
			b.remove(key, h.of(key))
		}
		same(t, b.what, Look(b.x), Shape{Empty: 8, Open: 1})
	}
}

// P10.1, P10.2: each put up to one that is refused.
func TestATableWithNothingLeft(t *testing.T) {
	for _, groups := range sizes() {
		for _, h := range hashings() {
			b := newBoth(t, groups, h.name)
			b.lay(uint64(7*groups), h)
			b.hold("the last put")
			b.put(api.Entry{Key: nowhere - 1, Hash: h.of(nowhere - 1)})
			x := Look(b.x)
			same(t, b.what+", left", b.x.Left(), 0)
			same(t, b.what+", full", x.Full, 7*groups)
			same(t, b.what+", empty", x.Empty, groups)
		}
	}
}

// P10.1, P10.2: by Delete and by Take, from the first one on and from the last one on.
func TestATableWhoseEntriesWereAllDeleted(t *testing.T) {
	for _, groups := range sizes() {
		for _, h := range hashings() {
			last := uint64(7*groups - 1)
			byDelete, byTake, fromTheLast := newBoth(t, groups, h.name), newBoth(t, groups, h.name), newBoth(t, groups, h.name)
			for _, b := range []*both{byDelete, byTake, fromTheLast} {
				b.lay(last+1, h)
			}
			for key := range last + 1 {
				byDelete.x.Delete(byDelete.lens(), key, h.of(key))
				byDelete.s.remove(key, h.of(key))
				fromTheLast.x.Delete(fromTheLast.lens(), last-key, h.of(last-key))
				fromTheLast.s.remove(last-key, h.of(last-key))
			}
			for g := range groups {
				byTake.take(g)
			}
			for _, b := range []*both{byDelete, byTake, fromTheLast} {
				b.hold("all were deleted")
				x := Look(b.x)
				same(t, b.what+", what searches cost", x.Full+x.Longest+x.Sum, 0)
				same(t, b.what+", slots", x.Deleted+x.Empty, 8*groups)
				same(t, b.what+", tombs", x.Deleted, b.x.Tombs())
				b.put(api.Entry{Key: 1, Hash: h.of(1)})
			}
		}
	}
}

// P10.1: groups 1 and 2 are full: what begins there goes on, what begins at an open one doesn't.
func TestPathBehindFullGroups(t *testing.T) {
	b := newBoth(t, 4, "two full groups")
	for key := range uint64(16) {
		b.put(api.Entry{Key: key, Val: key, Hash: (1+key/8)<<7 | key})
	}
	sameList(t, "text", b.x.Text(), []string{"........", "########", "########", "........"})
	for home, want := range [][]int{{0}, {1, 2, 0}, {2, 3}, {3}} {
		sameList(t, "Path", Path(b.x, uint64(home)<<7), want)
	}
	b.remove(3, 1<<7|3)
	sameList(t, "behind a Delete", Path(b.x, 1<<7), []int{1, 2, 0})
	b.take(2)
	sameList(t, "behind a Take", Path(b.x, 1<<7), []int{1, 2, 0})
	for key := range uint64(8) {
		b.put(api.Entry{Key: 20 + key, Val: key, Hash: 3 << 7})
	}
	for home, want := range [][]int{{0}, {1, 2, 0}, {2, 3, 1, 0}, {3, 0}} {
		sameList(t, "Path", Path(b.x, uint64(home)<<7), want)
	}
}

// P10.1: all groups but the walk's last one are full. (Of more groups than eight so many are never.)
func TestPathUpToTheEndOfTheWalk(t *testing.T) {
	for _, c := range []struct {
		home uint64
		want []int
	}{
		{0, []int{0}}, {0, []int{0, 1}}, {1, []int{1, 0}}, {0, []int{0, 1, 3, 2}}, {1, []int{1, 2, 0, 3}}, {3, []int{3, 0, 2, 1}},
		{0, []int{0, 1, 3, 6, 2, 7, 5, 4}}, {5, []int{5, 6, 0, 3, 7, 4, 2, 1}},
	} {
		b := newBoth(t, len(c.want), "home "+text(c.home))
		h := hashing{of: func(key uint64) uint64 { return c.home<<7 | key%128 }}
		b.lay(uint64(8*(len(c.want)-1)), h)
		b.hold("full but for the last group")
		sameList(t, b.what, Path(b.x, c.home<<7), c.want)
		for g := range b.s.groups {
			b.take(g)
		}
		sameList(t, b.what+", tombs", Path(b.x, c.home<<7), c.want)
	}
}

// P10.1: the lower 7 bits don't matter, and the highest ones do only by their walk.
func TestPathIsOfTheUpperPartAlone(t *testing.T) {
	for _, groups := range sizes() {
		for _, h := range hashings() {
			b := newBoth(t, groups, h.name)
			b.lay(uint64(6*groups), h)
			for _, upper := range []uint64{0, 1, uint64(groups) - 1, uint64(groups), 5, 1<<56 | 3, 1<<57 - 1} {
				want := b.s.path(upper << 7)
				for lower := range uint64(128) {
					sameList(t, b.what, Path(b.x, upper<<7|lower), want)
				}
			}
		}
	}
}

// P10.1: the path is where the table's own search looks, group by group.
func TestPathIsWhatASearchLooksAt(t *testing.T) {
	for _, groups := range sizes() {
		for _, h := range hashings() {
			b := newBoth(t, groups, h.name)
			b.lay(uint64(7*groups), h)
			for key := uint64(0); key < uint64(7*groups); key += 2 {
				b.x.Delete(b.lens(), key, h.of(key))
			}
			for home := range uint64(groups) {
				var m meter.Meter
				_, is := b.x.Find(m.Probing(), nowhere, home<<7)
				same(t, b.what, is, false)
				same(t, b.what, len(Path(b.x, home<<7)), m.All().Probes)
			}
		}
	}
}

// P10.1: what is answered is the caller's.
func TestAPathIsTheCallers(t *testing.T) {
	b := newBoth(t, 8, "eight groups")
	b.lay(56, hashings()[1])
	path := Path(b.x, 0)
	want := slices.Clone(path)
	for i := range path {
		path[i] = 99
	}
	sameList(t, "another path", Path(b.x, 0), want)
	b.hold("a path, written over")
}

// P10.1: 8, 8 and 5 entries at the walk's first, second and third group, some of which go.
func TestLookBehindFullGroups(t *testing.T) {
	b := newBoth(t, 4, "one walk")
	h := hashings()[1]
	b.lay(21, h)
	same(t, "laid", Look(b.x), Shape{Full: 21, Empty: 11, Open: 2, Longest: 3, Sum: 8 + 2*8 + 3*5})
	for key := range uint64(8) {
		b.remove(key, h.of(key))
	}
	same(t, "behind Delete", Look(b.x), Shape{Full: 13, Deleted: 8, Empty: 11, Open: 2, Longest: 3, Sum: 2*8 + 3*5})
	b.take(3)
	same(t, "behind Take", Look(b.x), Shape{Full: 8, Deleted: 8, Empty: 16, Open: 2, Longest: 2, Sum: 2 * 8})
	b.put(api.Entry{Key: 40, Hash: h.of(40)})
	same(t, "behind Put", Look(b.x), Shape{Full: 9, Deleted: 7, Empty: 16, Open: 2, Longest: 2, Sum: 2*8 + 1})
	b.take(1)
	same(t, "behind another Take", Look(b.x), Shape{Full: 1, Deleted: 15, Empty: 16, Open: 2, Longest: 1, Sum: 1})
	b.remove(40, h.of(40))
	same(t, "none is left", Look(b.x), Shape{Deleted: 16, Empty: 16, Open: 2})
}

// P10.1: the longest search is that of one entry, wherever it stands; here it is the first one that a scan comes to.
func TestTheLongestSearchIsOfAnyEntry(t *testing.T) {
	b := newBoth(t, 4, "home 3")
	b.lay(9, hashing{of: func(uint64) uint64 { return 3 << 7 }})
	sameList(t, "text", b.x.Text(), []string{"#.......", "........", "........", "########"})
	same(t, "Look", Look(b.x), Shape{Full: 9, Empty: 23, Open: 3, Longest: 2, Sum: 10})
}

// P10.1: one key with two hashes, other lower parts, in one group: all else is right.
func TestOneKeyTwiceInOneGroup(t *testing.T) {
	b := newBoth(t, 1, "two lower parts")
	b.broken = true
	b.put(api.Entry{Key: 5, Val: 1, Hash: 1})
	sameError(t, "once", Check(b.x), nil)
	b.put(api.Entry{Key: 5, Val: 1, Hash: 2})
	sameError(t, "twice", Check(b.x), api.ErrBroken)
	same(t, "twice", Look(b.x), Shape{Full: 2, Empty: 6, Open: 1, Longest: 1, Sum: 2})
	b.remove(5, 1)
	sameError(t, "once again", Check(b.x), nil)
}

// P10.1: in two groups, each found by its own hash.
func TestOneKeyTwiceInTwoGroups(t *testing.T) {
	for _, groups := range sizes()[1:] {
		b := newBoth(t, groups, "two homes")
		b.broken = true
		b.put(api.Entry{Key: 0, Hash: 0})
		b.put(api.Entry{Key: 0, Hash: 1 << 7})
		b.put(api.Entry{Key: 1, Hash: 0})
		sameError(t, b.what, Check(b.x), api.ErrBroken)
		b.take(0)
		sameError(t, b.what, Check(b.x), nil)
		b.put(api.Entry{Key: 0, Hash: 0})
		sameError(t, b.what, Check(b.x), api.ErrBroken)
		b.remove(0, 1<<7)
		sameError(t, b.what, Check(b.x), nil)
	}
}

// P10.1: a key's entry that stands behind another one of the same key isn't found: the search ends at that one.
func TestOneKeyHiddenByItsOtherHash(t *testing.T) {
	b := newBoth(t, 4, "hidden")
	b.broken = true
	for key := range uint64(16) {
		b.put(api.Entry{Key: key, Hash: key / 8 << 7})
	}
	b.put(api.Entry{Key: 50, Val: 1, Hash: 1 << 7}) // groups 1, 2
	b.remove(9, 1<<7)
	sameError(t, "once", Check(b.x), nil)
	b.put(api.Entry{Key: 50, Val: 2, Hash: 0}) // groups 0, 1
	e, is := b.x.Find(meter.Lens{}, 50, 1<<7)
	same(t, "found by the first hash", e, api.Entry{Key: 50, Val: 2, Hash: 0})
	same(t, "found by the first hash", is, true)
	sameError(t, "hidden", Check(b.x), api.ErrBroken)
	same(t, "hidden", Look(b.x), Shape{Full: 17, Empty: 15, Open: 2, Longest: 2, Sum: 8 + 7 + 2 + 1})
	b.remove(50, 0)
	sameError(t, "once again", Check(b.x), nil)
}

// P10.1: another hash by which the same search finds the key: it stands once then, and all is so as it must be.
func TestOneKeyWithTwoHashesThatStandsOnce(t *testing.T) {
	b := newBoth(t, 2, "one walk")
	b.put(api.Entry{Key: 5, Val: 1, Hash: 3})
	b.put(api.Entry{Key: 5, Val: 2, Hash: 1<<20 | 3})
	sameError(t, "once", Check(b.x), nil)
	same(t, "once", Look(b.x), Shape{Full: 1, Empty: 15, Open: 2, Longest: 1, Sum: 1})
}

// P10.1: one key and one hash, placed twice: by a spot that didn't hold any more.
func TestOneEntryTwice(t *testing.T) {
	b := newBoth(t, 4, "twice")
	b.broken = true
	for key := range uint64(7) {
		b.put(api.Entry{Key: key})
	}
	twice := api.Entry{Key: 90, Val: 1}
	old := b.x.Seek(meter.Lens{}, twice.Key, twice.Hash)
	for key := range uint64(7) {
		b.put(api.Entry{Key: 10 + key})
	}
	b.put(twice)
	b.remove(3, 0)
	sameError(t, "once", Check(b.x), nil)
	sameError(t, "Place", old.Place(twice), nil)
	b.s.len++
	b.s.tombs--
	b.s.groups[0][3] = slot{'#', twice}
	b.hold("another Place")
	sameError(t, "twice", Check(b.x), api.ErrBroken)
}

// P10.1: a group with entries is prepared: the table has more entries then than its groups; all of these are found, and once.
func TestMoreEntriesThanFullSlots(t *testing.T) {
	b := newBoth(t, 2, "prepared late")
	b.broken = true
	b.put(api.Entry{Key: 1})
	b.put(api.Entry{Key: 2, Hash: 1 << 7})
	b.prepare(0)
	sameError(t, "one of two", Check(b.x), api.ErrBroken)
	b.remove(2, 1<<7)
	sameError(t, "none", Check(b.x), api.ErrBroken)
}

// P10.1: likewise with tombs.
func TestMoreTombsThanDeletedSlots(t *testing.T) {
	b := newBoth(t, 2, "prepared late")
	b.broken = true
	b.lay(8, hashings()[1])
	b.take(0)
	same(t, "tombs", b.x.Tombs(), 8)
	sameError(t, "ahead of it", Check(b.x), nil)
	b.prepare(1)
	sameError(t, "the group without entries", Check(b.x), nil)
	b.prepare(0)
	sameError(t, "behind it", Check(b.x), api.ErrBroken)
}

// P10.1: fewer entries than full slots, while there are as many tombs as deleted slots, and each entry is found, and once. (Likewise by a call that layer 9 bids wait.)
func TestFewerEntriesThanFullSlots(t *testing.T) {
	x := makeRaw(t, 2)
	x.Prepare(meter.Lens{}, 0)
	x.Take(meter.Lens{}, 1)
	for key := range uint64(3) {
		x.Put(meter.Lens{}, api.Entry{Key: key, Hash: key << 7})
	}
	sameList(t, "text", x.Text(), []string{"##......", "#xxxxxxx"})
	same(t, "entries", x.Len(), 3-8)
	same(t, "tombs", x.Tombs(), 7)
	sameError(t, "Check", Check(x), api.ErrBroken)
}

// P10.1: an entry that isn't found, while the table has as many entries and tombs as it should, and each key once. (A table gets so only by calls that layer 9 bids wait: so what it is then is looked at first.)
func TestAnEntryThatIsNotFound(t *testing.T) {
	for _, hidden := range []api.Entry{{Key: 9, Val: 5, Hash: 3}, {}} { // what isn't found is answered as the second one is
		x := makeRaw(t, 4)
		for g := range 3 {
			x.Prepare(meter.Lens{}, g)
		}
		x.Take(meter.Lens{}, 3)
		for key := range uint64(8) {
			x.Put(meter.Lens{}, api.Entry{Key: key + 1})
		}
		x.Put(meter.Lens{}, hidden)
		x.Prepare(meter.Lens{}, 0)
		sameList(t, "text", x.Text(), []string{"........", "#.......", "........", "xxxxxxxx"})
		same(t, "entries", x.Len(), 1)
		same(t, "tombs", x.Tombs(), 8)
		same(t, "left", x.Left(), 19)
		_, is := x.Find(meter.Lens{}, hidden.Key, hidden.Hash)
		same(t, "found", is, false)
		sameError(t, "Check", Check(x), api.ErrBroken)
		same(t, "Look", Look(x), Shape{Full: 1, Deleted: 8, Empty: 23, Open: 3, Longest: 1, Sum: 1})
	}
}

// P10.1: nothing is told of tables that aren't ready; but no call panics, and each one ends.
func TestTablesThatAreNotReady(t *testing.T) {
	for _, groups := range sizes() {
		x := makeRaw(t, groups)
		for g := range groups {
			Check(x)
			Look(x)
			Path(x, uint64(g)<<7)
			x.Prepare(meter.Lens{}, g)
		}
		sameError(t, "Check", Check(x), nil)
	}
	var none table.Table
	Check(&none)
	Look(&none)
	Path(&none, 0)
}

// call is one of the calls that change a table, or might.
type call struct {
	name string
	do   func(b *both)
}

func calls(h hashing) []call {
	entry := func(key, val uint64) api.Entry { return api.Entry{Key: key, Val: val, Hash: h.of(key)} }
	return []call{
		{"put 0", func(b *both) { b.put(entry(0, 70)) }},
		{"put 50", func(b *both) { b.put(entry(50, 71)) }},
		{"delete 0", func(b *both) { b.remove(0, h.of(0)) }},
		{"delete 9", func(b *both) { b.remove(9, h.of(9)) }},
		{"take 0", func(b *both) { b.take(0) }},
		{"take 1", func(b *both) { b.take(1) }},
		{"replace 9", func(b *both) { b.replace(9, h.of(9), 80) }},
		{"remove 9", func(b *both) { b.letGo(9, h.of(9)) }},
		{"place 50", func(b *both) { b.place(entry(50, 81)) }},
		{"place 51", func(b *both) { b.place(entry(51, 82)) }},
	}
}

// P10.1, P10.2: each order of so many calls out of all kinds, from tables without entries on, from half full ones, and from ones of which one slot or none is left.
func TestEveryOrderOfFewCalls(t *testing.T) {
	const long = 3
	for _, h := range []hashing{hashings()[1], hashings()[5], hashings()[8]} {
		list := calls(h)
		for _, before := range []uint64{0, 8, 10, 13, 14} {
			for order := range len(list) * len(list) * len(list) {
				b := newBoth(t, 2, h.name)
				b.lay(before, h)
				for left, n := order, 0; n < long; n++ {
					next := list[left%len(list)]
					b.what += ", " + next.name
					next.do(b)
					left /= len(list)
				}
			}
		}
	}
}

// step does one call of any kind.
func (b *both) step(key, hash uint64, next func(int) int, growing bool) {
	b.t.Helper()
	b.works = next(2) == 0
	e := api.Entry{Key: key, Val: uint64(next(1000)), Hash: hash}
	kind := next(20)
	if growing && 8 <= kind && kind < 14 {
		kind -= 8 // puts for deletes
	}
	switch {
	case kind < 8:
		b.put(e)
	case kind < 14:
		b.remove(key, hash)
	case kind < 15:
		b.take(next(len(b.s.groups)))
	case kind < 16:
		b.replace(key, hash, e.Val)
	case kind < 17:
		b.letGo(key, hash)
	default:
		b.place(e)
	}
}

// P10.1, P10.2: long orders, of every size and every hashing, in which tables get full and without entries in turns.
func TestLongOrders(t *testing.T) {
	next := some()
	full, tombs, longest := 0, 0, 0
	for _, groups := range sizes() {
		for _, h := range hashings() {
			b := newBoth(t, groups, h.name)
			steps := 200
			if groups > 16 {
				steps = 100
			}
			for n := range steps {
				if n%100 == 50 {
					b.lay(uint64(7*groups), h)
				}
				key := uint64(next(9 * groups))
				b.step(key, h.of(key), next, n/50%2 == 0)
				x := Look(b.x)
				if b.x.Left() == 0 {
					full++
				}
				tombs += x.Deleted
				longest = max(longest, x.Longest)
			}
		}
	}
	if full < 100 || tombs < 1000 || longest < 30 {
		t.Fatalf("too little was seen: %d calls with nothing left, %d deleted slots, searches of %d groups", full, tombs, longest)
	}
}

// P10.1: wrong inputs: each key has three hashes, and groups are prepared late; the slow table tells which tables are broken by it.
func TestLongOrdersOfKeysWithManyHashes(t *testing.T) {
	next := some()
	broken, sound := 0, 0
	for _, groups := range []int{1, 2, 4, 8, 16} {
		for round := range 60 {
			b := newBoth(t, groups, "many hashes")
			b.broken = true
			for range 60 {
				key := uint64(next(5 * groups))
				if next(10*groups) == 0 && round%3 == 0 {
					b.prepare(next(groups))
				}
				hash := key % 3 << 7 // so that two keys are mostly at one place
				if next(12) == 0 {
					hash += uint64(next(3)) << 7 * uint64(round%4+1)
				}
				if next(20) == 0 {
					hash += uint64(next(2))
				}
				b.step(key, hash, next, next(2) == 0)
				if Check(b.x) == nil {
					sound++
				} else {
					broken++
				}
			}
		}
	}
	if broken < 1000 || sound < 1000 {
		t.Fatalf("too little was seen: %d broken tables, %d sound ones", broken, sound)
	}
}

// P10.2: told by Check alone, without a slow table, behind each call.
func TestATableIsSoundWhateverIsDone(t *testing.T) {
	next := some()
	for _, groups := range sizes() {
		for _, h := range hashings() {
			x := makeNew(t, groups)
			for range 400 {
				key, l := uint64(next(8*groups)), meter.Lens{}
				hash := h.of(key)
				switch next(8) {
				case 0, 1, 2, 3:
					x.Put(l, api.Entry{Key: key, Val: key, Hash: hash})
				case 4:
					x.Delete(l, key, hash)
				case 5:
					x.Take(l, next(groups))
				case 6:
					x.Seek(l, key, hash).Remove()
				case 7:
					x.Seek(l, key, hash).Place(api.Entry{Key: key, Val: 1, Hash: hash})
				}
				sameError(t, h.name, Check(x), nil)
			}
		}
	}
}
