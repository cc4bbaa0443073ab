package table

import (
	"errors"
	"math"
	"slices"
	"strconv"
	"testing"

	"ambler/api"
	"ambler/meter"
)

// The tests hold each call against a slow table: a list of groups of eight slots each, gone through one by one, with no layer below, and against a plain map of keys. How many groups a call looks at is told by the slow table, too.

const (
	lanes    = 8
	greatest = math.MaxUint64
)

type slot struct {
	sign byte // '.', 'x' or '#'
	e    api.Entry
}

// slow is a table as a list of slots.
type slow struct {
	groups [][lanes]slot
}

func newSlow(groups int) *slow {
	s := &slow{groups: make([][lanes]slot, groups)}
	for g := range s.groups {
		for i := range lanes {
			s.groups[g][i] = slot{sign: '.'}
		}
	}
	return s
}

func (s *slow) count(sign byte) int {
	n := 0
	for _, g := range s.groups {
		for _, each := range g {
			if each.sign == sign {
				n++
			}
		}
	}
	return n
}

func (s *slow) left() int { return 7*len(s.groups) - s.count('#') - s.count('x') }

// walk adds 1, 2, 3 .. one by one.
func (s *slow) walk(hash uint64) []int {
	n := uint64(len(s.groups))
	place := hash / 128 % n
	var places []int
	for i := range n {
		place = (place + i) % n
		places = append(places, int(place))
	}
	return places
}

func (s *slow) isOpen(g int) bool {
	for _, each := range s.groups[g] {
		if each.sign == '.' {
			return true
		}
	}
	return false
}

// seek is the place of a key, and how many groups are looked at for it; of a key that isn't there the slot is -1.
func (s *slow) seek(key, hash uint64) (g, i, looks int) {
	for n, g := range s.walk(hash) {
		for i, each := range s.groups[g] {
			if each.sign == '#' && each.e.Key == key {
				return g, i, n + 1
			}
		}
		if s.isOpen(g) {
			return 0, -1, n + 1
		}
	}
	return 0, -1, len(s.groups)
}

func (s *slow) find(key, hash uint64) (api.Entry, bool) {
	g, i, _ := s.seek(key, hash)
	if i < 0 {
		return api.Entry{}, false
	}
	return s.groups[g][i].e, true
}

// put goes through the whole walk for the place of a new entry, not only up to where the search ended.
func (s *slow) put(e api.Entry) (bool, error) {
	if g, i, _ := s.seek(e.Key, e.Hash); i >= 0 {
		s.groups[g][i].e.Val = e.Val
		return false, nil
	}
	if s.left() == 0 {
		return false, api.ErrFull
	}
	for _, g := range s.walk(e.Hash) {
		for i, each := range s.groups[g] {
			if each.sign != '#' {
				s.groups[g][i] = slot{'#', e}
				return true, nil
			}
		}
	}
	panic("something is left, and no slot is free")
}

func (s *slow) erase(g, i int) {
	sign := byte('x')
	for k, each := range s.groups[g] {
		if k != i && each.sign == '.' {
			sign = '.'
		}
	}
	s.groups[g][i] = slot{sign: sign}
}

func (s *slow) remove(key, hash uint64) (api.Entry, bool) {
	g, i, _ := s.seek(key, hash)
	if i < 0 {
		return api.Entry{}, false
	}
	e := s.groups[g][i].e
	s.erase(g, i)
	return e, true
}

func (s *slow) scan(g int) ([]api.Entry, error) {
	if g < 0 || g >= len(s.groups) {
		return nil, api.ErrRange
	}
	var list []api.Entry
	for _, each := range s.groups[g] {
		if each.sign == '#' {
			list = append(list, each.e)
		}
	}
	return list, nil
}

func (s *slow) take(g int) ([]api.Entry, error) {
	list, err := s.scan(g)
	if err != nil {
		return nil, err
	}
	for i := range lanes {
		if s.groups[g][i].sign == '#' {
			s.erase(g, i)
		}
	}
	return list, nil
}

func (s *slow) text() []string {
	var list []string
	for _, g := range s.groups {
		text := ""
		for _, each := range g {
			text += string(each.sign)
		}
		list = append(list, text)
	}
	return list
}

// leastOf sorts all that don't come ahead.
func leastOf(all map[uint64]api.Entry, hash, key uint64) (api.Entry, bool) {
	var list []api.Entry
	for _, e := range all {
		if e.Hash > hash || e.Hash == hash && e.Key >= key {
			list = append(list, e)
		}
	}
	if len(list) == 0 {
		return api.Entry{}, false
	}
	slices.SortFunc(list, inOrder)
	return list[0], true
}

func inOrder(a, b api.Entry) int {
	switch {
	case a.Hash < b.Hash, a.Hash == b.Hash && a.Key < b.Key:
		return -1
	case a == b:
		return 0
	}
	return 1
}

// all is a table, a slow one and a plain map of which each is given what the others are.
type all struct {
	t     *testing.T
	what  string
	x     *Table
	s     *slow
	plain map[uint64]api.Entry
	m     *meter.Meter
	works bool // whether its lens counts visits, not probes
	keys  map[uint64]uint64
}

func newAll(t *testing.T, groups int, what string) *all {
	t.Helper()
	return allOf(t, makeNew(t, groups), what)
}

func allOf(t *testing.T, x *Table, what string) *all {
	return &all{t: t, what: what, x: x, s: newSlow(x.Groups()), plain: map[uint64]api.Entry{}, m: &meter.Meter{}, keys: map[uint64]uint64{}}
}

func makeNew(t *testing.T, groups int) *Table {
	t.Helper()
	x, err := New(groups)
	sameError(t, "New", err, nil)
	return x
}

func makeRaw(t *testing.T, groups int) *Table {
	t.Helper()
	x, err := Raw(groups)
	sameError(t, "Raw", err, nil)
	return x
}

func (a *all) lens() meter.Lens {
	if a.works {
		return a.m.Working()
	}
	return a.m.Probing()
}

// counted holds the looks since the last time against those that should be.
func (a *all) counted(what string, looks int) {
	a.t.Helper()
	if !a.looked(looks) {
		a.t.Fatalf("%s: not %d looks of %d groups", what, looks, len(a.s.groups))
	}
}

func (a *all) looked(looks int) bool {
	want := meter.Counts{Probes: looks}
	if a.works {
		want = meter.Counts{Visits: looks}
	}
	got := a.m.Last()
	a.m.Reset()
	return got == want && looks <= len(a.s.groups)
}

func (a *all) put(e api.Entry) {
	a.t.Helper()
	a.keys[e.Key] = e.Hash
	what := a.what + ", Put of " + text(e.Key)
	_, _, looks := a.s.seek(e.Key, e.Hash)
	_, was := a.plain[e.Key]
	isNew, err := a.x.Put(a.lens(), e)
	want, wantErr := a.s.put(e)
	same(a.t, what, isNew, want)
	sameError(a.t, what, err, wantErr)
	same(a.t, what+", held against the map", isNew || err != nil, !was)
	if err == nil {
		a.plain[e.Key] = e
	}
	a.counted(what, looks)
	a.hold(what)
}

func (a *all) remove(key, hash uint64) {
	a.t.Helper()
	a.keys[key] = hash
	what := a.what + ", Delete of " + text(key)
	_, _, looks := a.s.seek(key, hash)
	e, is := a.x.Delete(a.lens(), key, hash)
	want, wantIs := a.s.remove(key, hash)
	same(a.t, what, e, want)
	same(a.t, what, is, wantIs)
	same(a.t, what+", held against the map", e, a.plain[key])
	delete(a.plain, key)
	a.counted(what, looks)
	a.hold(what)
}

func (a *all) take(g int) {
	a.t.Helper()
	what := a.what + ", Take of group " + strconv.Itoa(g)
	list, err := a.x.Take(a.lens(), g)
	want, wantErr := a.s.take(g)
	sameList(a.t, what, list, want)
	sameError(a.t, what, err, wantErr)
	for _, e := range list {
		same(a.t, what+", held against the map", e, a.plain[e.Key])
		delete(a.plain, e.Key)
	}
	a.counted(what, looksAt(err))
	a.hold(what)
}

func looksAt(err error) int {
	if err != nil {
		return 0
	}
	return 1
}

func (a *all) seek(key, hash uint64) Spot {
	a.t.Helper()
	a.keys[key] = hash
	what := a.what + ", Seek of " + text(key)
	_, _, looks := a.s.seek(key, hash)
	s := a.x.Seek(a.lens(), key, hash)
	a.counted(what, looks)
	a.hold(what)
	a.entry(s, key, hash)
	return s
}

func (a *all) entry(s Spot, key, hash uint64) {
	a.t.Helper()
	what := a.what + ", Entry of " + text(key)
	e, is := s.Entry()
	want, wantIs := a.s.find(key, hash)
	same(a.t, what, e, want)
	same(a.t, what, is, wantIs)
	a.counted(what, 0)
}

func (a *all) replace(s Spot, key, hash, val uint64) {
	a.t.Helper()
	what := a.what + ", Replace of " + text(key)
	e, is := a.s.find(key, hash)
	if err := s.Replace(val); is {
		sameError(a.t, what, err, nil)
		e.Val = val
		a.s.put(e)
		a.plain[key] = e
	} else {
		sameError(a.t, what, err, api.ErrNone)
	}
	a.counted(what, 0)
	a.hold(what)
	a.entry(s, key, hash)
}

// place is of a spot of that key and hash.
func (a *all) place(s Spot, key, hash uint64, e api.Entry) {
	a.t.Helper()
	if e.Key != key { // of one key the hash is always the same, but what is to be refused may have another one
		a.keys[e.Key] = e.Hash
	}
	what := a.what + ", Place of " + text(e.Key) + " at " + text(key)
	_, is := a.s.find(key, hash)
	err := s.Place(e)
	switch {
	case is:
		sameError(a.t, what, err, api.ErrDup)
	case e.Key != key, e.Hash != hash:
		sameError(a.t, what, err, api.ErrKind)
	default:
		_, want := a.s.put(e)
		sameError(a.t, what, err, want)
		if err == nil {
			a.plain[key] = e
		}
	}
	a.counted(what, 0)
	a.hold(what)
	a.entry(s, key, hash)
}

func (a *all) letGo(s Spot, key, hash uint64) {
	a.t.Helper()
	what := a.what + ", Remove of " + text(key)
	if _, is := a.s.remove(key, hash); is {
		sameError(a.t, what, s.Remove(), nil)
		delete(a.plain, key)
	} else {
		sameError(a.t, what, s.Remove(), api.ErrNone)
	}
	a.counted(what, 0)
	a.hold(what)
	a.entry(s, key, hash)
}

// hold holds all that can be asked, but Least, against the slow table and the plain map.
func (a *all) hold(what string) {
	a.t.Helper()
	if a.x.Groups() != len(a.s.groups) || a.x.Len() != a.s.count('#') || a.x.Len() != len(a.plain) || a.x.Tombs() != a.s.count('x') || a.x.Left() != a.s.left() {
		a.t.Fatalf("%s: %d groups, %d entries, %d tombs, %d left, not %d, %d (%d), %d, %d", what,
			a.x.Groups(), a.x.Len(), a.x.Tombs(), a.x.Left(), len(a.s.groups), a.s.count('#'), len(a.plain), a.s.count('x'), a.s.left())
	}
	sameList(a.t, what, a.x.Text(), a.s.text())
	a.counted(what, 0)
	for g := range a.s.groups {
		list, err := a.x.Scan(a.lens(), g)
		want, _ := a.s.scan(g)
		sameList(a.t, what, list, want)
		sameError(a.t, what, err, nil)
		a.counted(what, 1)
	}
	for key, hash := range a.keys {
		_, _, looks := a.s.seek(key, hash)
		e, is := a.x.Find(a.lens(), key, hash)
		want, wantIs := a.plain[key]
		if e != want || is != wantIs || !a.looked(looks) {
			a.t.Fatalf("%s, Find of %#x: %v, %v, not %v, %v by %d looks", what, key, e, is, want, wantIs, looks)
		}
	}
}

// least holds Least at a hash and key, and beside them.
func (a *all) least(hash, key uint64) {
	a.t.Helper()
	for _, h := range []uint64{hash - 1, hash, hash + 1} {
		for _, k := range []uint64{key - 1, key, key + 1} {
			what := a.what + ", Least of " + text(h) + " and " + text(k)
			e, is := a.x.Least(a.lens(), h, k)
			want, wantIs := leastOf(a.plain, h, k)
			same(a.t, what, e, want)
			same(a.t, what, is, wantIs)
			a.counted(what, len(a.s.groups))
		}
	}
}

func text(n uint64) string { return "0x" + strconv.FormatUint(n, 16) }

func same[T comparable](t *testing.T, what string, got, want T) {
	t.Helper()
	if got != want {
		t.Fatalf("%s: %v, not %v", what, got, want)
	}
}

func sameList[T comparable](t *testing.T, what string, got, want []T) {
	t.Helper()
	if !slices.Equal(got, want) {
		t.Fatalf("%s: %v, not %v", what, got, want)
	}
}

// sameError asks by ==, not by errors.Is: the promise is that error, not one around it.
func sameError(t *testing.T, what string, got, want error) {
	t.Helper()
	if got == nil || want == nil {
		if got != nil || want != nil {
			t.Fatalf("%s: %v, not %v", what, got, want)
		}
		return
	}
	if got != want || !errors.Is(got, want) {
		t.Fatalf("%s: %v, not %v", what, got, want)
	}
}

// sizes are all numbers of groups that a table may have.
func sizes() []int { return []int{1, 2, 4, 8, 16, 32, 64} }

// noSizes gives numbers of groups that no table has: all others from -130 to 260, and edges far off.
func noSizes() []int {
	ns := []int{512, 1 << 16, 1 << 31, 1 << 32, 1<<32 + 1, 1<<32 + 64, 1 << 62, math.MaxInt32, math.MinInt32, math.MaxInt, math.MinInt, math.MinInt + 64}
	for n := -130; n <= 260; n++ {
		if !slices.Contains(sizes(), n) {
			ns = append(ns, n)
		}
	}
	return ns
}

// noGroups gives numbers of groups that a table of so many hasn't.
func noGroups(groups int) []int {
	return []int{-1, -2, -groups, groups, groups + 1, 2 * groups, groups + 64, 1 << 32, 1<<32 + groups - 1, math.MaxInt32, math.MinInt32, math.MaxInt, math.MinInt}
}

// hashing tells the hash of each key, always the same one.
type hashing struct {
	name string
	of   func(key uint64) uint64
}

// hashings gives hostile ones, too: one hash for all keys, one walk or one lower part for all.
func hashings() []hashing {
	return []hashing{
		{"one hash", func(uint64) uint64 { return 0x0123456789ABCDEF }},
		{"no hash", func(uint64) uint64 { return 0 }},
		{"the greatest hash", func(uint64) uint64 { return greatest }},
		{"one walk", func(key uint64) uint64 { return 5<<7 | key%128 }},
		{"one lower part", func(key uint64) uint64 { return key<<7 | 0x2A }},
		{"two walks", func(key uint64) uint64 { return key%2<<7 | key%3 }},
		{"the key", func(key uint64) uint64 { return key }},
		{"few", func(key uint64) uint64 { return key % 7 * 0x1234567 }},
		{"spread", func(key uint64) uint64 { return (key + 1) * 0x9E3779B97F4A7C15 }},
	}
}

// P9.1
func TestTheExample(t *testing.T) {
	x := makeNew(t, 1)
	for key := range uint64(7) {
		isNew, err := x.Put(meter.Lens{}, api.Entry{Key: key, Val: key, Hash: key})
		same(t, "put", isNew, true)
		sameError(t, "put", err, nil)
	}
	isNew, err := x.Put(meter.Lens{}, api.Entry{Key: 7})
	same(t, "the eighth", isNew, false)
	sameError(t, "the eighth", err, api.ErrFull)
}

// P9.1
func TestNewOfEachNumberOfGroups(t *testing.T) {
	for _, groups := range sizes() {
		a := newAll(t, groups, "new")
		a.keys = map[uint64]uint64{0: 0, 1: 0, 2: greatest, greatest: 128}
		a.hold("new")
		same(t, "Groups", a.x.Groups(), groups)
		same(t, "Left", a.x.Left(), 7*groups)
		sameList(t, "Text", a.x.Text(), slices.Repeat([]string{"........"}, groups))
		a.least(0, 0)
		a.least(greatest, greatest)
		a.remove(0, 0)
		for g := range groups {
			a.take(g)
		}
	}
}

// P9.1
func TestRawOfEachNumberOfGroups(t *testing.T) {
	for _, groups := range sizes() {
		x := makeRaw(t, groups)
		same(t, "Groups", x.Groups(), groups)
		same(t, "Len", x.Len(), 0)
		same(t, "Tombs", x.Tombs(), 0)
	}
}

// P9.1
func TestNoTableHasSoManyGroups(t *testing.T) {
	for _, groups := range noSizes() {
		for _, f := range []func(int) (*Table, error){New, Raw} {
			x, err := f(groups)
			same(t, strconv.Itoa(groups), x, nil)
			sameError(t, strconv.Itoa(groups), err, api.ErrRange)
		}
	}
}

// P9.1: rising, falling, every third one first, and each twice: all is as of New then, whatever is done behind it.
func TestARawTablePreparedIsANewOne(t *testing.T) {
	for _, groups := range sizes() {
		rising, falling, mixed := make([]int, groups), make([]int, groups), make([]int, groups)
		for i := range groups {
			rising[i], falling[i], mixed[i] = i, groups-1-i, (i*3+1)%groups
		}
		for _, order := range [][]int{rising, falling, mixed, append(slices.Clone(rising), falling...)} {
			a := allOf(t, makeRaw(t, groups), "raw, prepared")
			for n, g := range order {
				a.works = n%2 == 0
				sameError(t, "Prepare", a.x.Prepare(a.lens(), g), nil)
				a.counted("Prepare", 1)
				same(t, "Len", a.x.Len(), 0)
				same(t, "Tombs", a.x.Tombs(), 0)
				same(t, "Groups", a.x.Groups(), groups)
			}
			a.keys = map[uint64]uint64{0: 0, 1: 5 << 7, greatest: greatest}
			a.hold("raw, prepared")
			a.least(0, 0)
			fill(a, hashings()[3])
			for key := range uint64(7) {
				a.remove(key, a.keys[key])
			}
		}
	}
}

// P9.1: a group that is prepared is one without entries; the others are as they were.
func TestPrepareIsOfOneGroupAlone(t *testing.T) {
	for _, groups := range sizes() {
		for g := range groups {
			x := makeRaw(t, groups)
			before := slices.Clone(x.Text())
			sameError(t, "Prepare", x.Prepare(meter.Lens{}, g), nil)
			before[g] = "........"
			sameList(t, "Text", x.Text(), before)
		}
	}
}

// P9.1: ahead of all entries of a table that was ready already.
func TestPrepareOfANewTable(t *testing.T) {
	for _, groups := range sizes() {
		a := newAll(t, groups, "new, prepared")
		for g := range groups {
			sameError(t, "Prepare", a.x.Prepare(a.lens(), g), nil)
			a.counted("Prepare", 1)
			a.hold("new, prepared")
		}
		fill(a, hashings()[0])
	}
}

// P9.1: nothing but the groups is changed by it.
func TestPrepareChangesNothingElse(t *testing.T) {
	a := newAll(t, 2, "two groups")
	fill(a, hashings()[0])
	a.remove(0, a.keys[0])
	a.remove(1, a.keys[1])
	length, tombs, left := a.x.Len(), a.x.Tombs(), a.x.Left()
	sameError(t, "Prepare", a.x.Prepare(a.lens(), 0), nil)
	sameError(t, "Prepare", a.x.Prepare(a.lens(), 1), nil)
	same(t, "Len", a.x.Len(), length)
	same(t, "Tombs", a.x.Tombs(), tombs)
	same(t, "Left", a.x.Left(), left)
	sameList(t, "Text", a.x.Text(), []string{"........", "........"})
}

// P9.1: the last group, group -1, and the one behind the last one, of Prepare, Take and Scan.
func TestWhatGroupsThereAre(t *testing.T) {
	for _, groups := range sizes() {
		a := newAll(t, groups, strconv.Itoa(groups)+" groups")
		fill(a, hashings()[6])
		before := a.x.Text()
		for _, g := range noGroups(groups) {
			sameError(t, "Prepare", a.x.Prepare(a.lens(), g), api.ErrRange)
			a.counted("Prepare", 0)
			list, err := a.x.Scan(a.lens(), g)
			same(t, "Scan of no group", len(list), 0)
			sameError(t, "Scan of no group", err, api.ErrRange)
			a.counted("Scan", 0)
			a.take(g)
			sameList(t, "Text", a.x.Text(), before)
		}
		same(t, "taken", len(a.plain), 7*groups)
		a.take(groups - 1)
		sameError(t, "Prepare", a.x.Prepare(a.lens(), groups-1), nil)
		a.counted("Prepare", 1)
	}
}

// fill puts entries of new keys, from 0 on, until nothing is left, and two more.
func fill(a *all, h hashing) {
	a.t.Helper()
	left := a.x.Left()
	for key := range uint64(left + 2) {
		if len(a.keys) > 60 {
			clear(a.keys) // so that of great tables not all are looked for behind each one
		}
		a.put(entryOf(key, h))
	}
	for key := range uint64(left + 2) {
		a.keys[key] = h.of(key)
	}
	a.hold(a.what + ", filled")
}

// entryOf is an entry with a value of its own.
func entryOf(key uint64, h hashing) api.Entry {
	return api.Entry{Key: key, Val: 1000 + key, Hash: h.of(key)}
}

// P9.1: new keys till nothing is left and beyond, and each key that is there, then; of ErrFull each call is held against the table as it was.
func TestPutUntilNothingIsLeft(t *testing.T) {
	for _, groups := range []int{1, 2, 4, 8} {
		for _, h := range hashings() {
			a := newAll(t, groups, strconv.Itoa(groups)+" groups, "+h.name)
			fill(a, h)
			same(t, a.what+", put", a.x.Len(), 7*groups)
			same(t, a.what+", left", a.x.Left(), 0)
			for key := range uint64(7 * groups) {
				isNew, err := a.x.Put(a.lens(), api.Entry{Key: key, Val: key ^ 0xFFFF, Hash: h.of(key)})
				same(t, a.what+", put again", isNew, false)
				sameError(t, a.what+", put again", err, nil)
				a.m.Reset()
				a.s.put(api.Entry{Key: key, Val: key ^ 0xFFFF, Hash: h.of(key)})
				a.plain[key] = api.Entry{Key: key, Val: key ^ 0xFFFF, Hash: h.of(key)}
			}
			a.hold(a.what + ", put again")
			// A key that was let go makes room for one, if its slot is empty; and there is none for two.
			for _, key := range []uint64{0, 3, uint64(7*groups - 1)} {
				a.remove(key, h.of(key))
				a.put(entryOf(key+1000, h))
				a.put(entryOf(key+2000, h))
			}
		}
	}
}

// P9.1: the largest tables, with all keys on one walk.
func TestPutIntoTheLargestTables(t *testing.T) {
	for _, groups := range []int{16, 32, 64} {
		for _, h := range []hashing{hashings()[0], hashings()[8]} {
			a := newAll(t, groups, strconv.Itoa(groups)+" groups, "+h.name)
			fill(a, h)
			same(t, a.what+", put", a.x.Len(), 7*groups)
		}
	}
}

// P9.1: nothing is changed by a Put that is refused: neither what is told nor the entries, and it goes on as if there had been none.
func TestAPutThatIsRefusedChangesNothing(t *testing.T) {
	for _, h := range hashings() {
		a := newAll(t, 4, h.name)
		fill(a, h)
		before := kept(t, a.x)
		for key := uint64(5000); key < 5050; key++ {
			isNew, err := a.x.Put(meter.Lens{}, entryOf(key, h))
			same(t, "is new", isNew, false)
			sameError(t, "refused", err, api.ErrFull)
			sameList(t, "kept", kept(t, a.x), before)
			_, is := a.x.Find(meter.Lens{}, key, h.of(key))
			same(t, "found", is, false)
		}
		a.hold("refused")
	}
}

// kept is all that a table tells of itself.
func kept(t *testing.T, x *Table) []string {
	t.Helper()
	list := append(x.Text(), strconv.Itoa(x.Len()), strconv.Itoa(x.Tombs()), strconv.Itoa(x.Left()))
	for g := range x.Groups() {
		entries, err := x.Scan(meter.Lens{}, g)
		sameError(t, "Scan", err, nil)
		for _, e := range entries {
			list = append(list, text(e.Key)+" "+text(e.Val)+" "+text(e.Hash))
		}
	}
	return list
}

// P9.1: all of an entry stands there, whatever it is; of a key that is there the value alone is another one.
func TestPutKeepsTheWholeEntry(t *testing.T) {
	numbers := []uint64{0, 1, 0x7F, 0x80, 0xFE, 0xFF, 1 << 32, 1 << 63, greatest}
	for _, key := range numbers {
		for _, hash := range numbers {
			a := newAll(t, 2, "numbers")
			for _, val := range numbers {
				a.put(api.Entry{Key: key, Val: val, Hash: hash})
				a.put(api.Entry{Key: key + 2, Val: val, Hash: hash})
			}
			same(t, "entries", a.x.Len(), 2)
		}
	}
}

// P9.1: eight entries fill one group; the one that is let go leaves a deleted slot, in which a new one stands.
func TestPutIntoADeletedSlot(t *testing.T) {
	for gone := range uint64(lanes) {
		a := newAll(t, 2, "slot "+text(gone))
		for key := range uint64(10) {
			a.put(api.Entry{Key: key})
		}
		same(t, "left", a.x.Left(), 4)
		a.remove(gone, 0)
		same(t, "deleted, tombs", a.x.Tombs(), 1)
		same(t, "deleted, left", a.x.Left(), 4)
		a.put(api.Entry{Key: 9, Val: 5}) // one that is there, behind the deleted slot
		same(t, "replaced, tombs", a.x.Tombs(), 1)
		a.put(api.Entry{Key: 20, Val: 6})
		same(t, "placed, tombs", a.x.Tombs(), 0)
		same(t, "placed, left", a.x.Left(), 4)
		same(t, "placed, text", a.x.Text()[0], "########")
		list, _ := a.x.Scan(meter.Lens{}, 0)
		same(t, "placed", list[gone], api.Entry{Key: 20, Val: 6})
	}
}

// P9.1: a deleted slot is no room, if nothing is left.
func TestPutBesideADeletedSlotWhenNothingIsLeft(t *testing.T) {
	a := newAll(t, 2, "two groups")
	fill(a, hashings()[1])
	same(t, "text", a.x.Text()[0], "########")
	for key := range uint64(8) {
		a.remove(key, 0)
		same(t, "left", a.x.Left(), 0)
		same(t, "tombs", a.x.Tombs(), int(key)+1)
		a.put(api.Entry{Key: 100})
		a.put(api.Entry{Key: 13, Val: key}) // it is there
	}
	same(t, "text", a.x.Text()[0], "xxxxxxxx")
	a.remove(13, 0)
	same(t, "left", a.x.Left(), 1)
	for key := uint64(100); key < 108; key++ {
		a.put(api.Entry{Key: key})
		same(t, "left", a.x.Left(), 1)
	}
	same(t, "text", a.x.Text()[0], "########")
	a.put(api.Entry{Key: 108})
	same(t, "left", a.x.Left(), 0)
	a.put(api.Entry{Key: 109})
}

// P9.1: the first free slot of the walk is one ahead of where the search ends.
func TestANewEntryStandsInTheFirstFreeSlot(t *testing.T) {
	for _, h := range hashings()[:3] {
		a := newAll(t, 8, h.name)
		for key := range uint64(40) {
			a.put(entryOf(key, h))
		}
		for _, key := range []uint64{33, 17, 30, 3, 22, 6} {
			a.remove(key, h.of(key))
		}
		same(t, "tombs", a.x.Tombs(), 6)
		for key := uint64(100); key < 118; key++ {
			a.put(entryOf(key, h))
		}
		same(t, "tombs", a.x.Tombs(), 0)
	}
}

// P9.1: keys of one hash stand eight in a group; the search for each, and for one that isn't there, goes by the groups that are full.
func TestAKeyBehindGroupsThatAreFull(t *testing.T) {
	for _, groups := range sizes() {
		x, m := makeNew(t, groups), &meter.Meter{}
		for key := range 7 * groups {
			looks := key/lanes + 1
			_, is := x.Find(m.Probing(), uint64(key), 1)
			same(t, "not there yet", is, false)
			same(t, "not there yet, looks", m.Last(), meter.Counts{Probes: looks})
			m.Reset()
			isNew, err := x.Put(m.Probing(), api.Entry{Key: uint64(key), Val: 3, Hash: 1})
			same(t, "put", isNew, true)
			sameError(t, "put", err, nil)
			same(t, "put, looks", m.Last(), meter.Counts{Probes: looks})
			m.Reset()
		}
		for key := range 7 * groups {
			e, is := x.Find(m.Working(), uint64(key), 1)
			same(t, "there", e, api.Entry{Key: uint64(key), Val: 3, Hash: 1})
			same(t, "there", is, true)
			same(t, "there, looks", m.Last(), meter.Counts{Visits: key/lanes + 1})
			m.Reset()
		}
	}
}

// P9.1: 7 for each group are, of up to eight groups, all of the walk but the last one full: it is the one that is open, and the walk ends there, too.
func TestASearchThatEndsWhereTheWalkDoes(t *testing.T) {
	for _, groups := range []int{1, 2, 4, 8} {
		for hash := range uint64(groups) {
			a := newAll(t, groups, strconv.Itoa(groups)+" groups")
			fill(a, hashing{"", func(uint64) uint64 { return hash << 7 }})
			_, is := a.x.Find(a.lens(), 999, hash<<7)
			same(t, "there", is, false)
			a.counted("not there", groups)
			open := 0
			for g, signs := range a.x.Text() {
				if signs != "########" {
					open++
					same(t, "open", g, a.s.walk(hash << 7)[groups-1])
				}
			}
			same(t, "open groups", open, 1)
		}
	}
}

// P9.1: a search ends at the first open group, though a free one, that isn't open, comes ahead of it.
func TestASearchEndsAtAnOpenGroup(t *testing.T) {
	a := newAll(t, 4, "four groups")
	for key := range uint64(17) {
		a.put(api.Entry{Key: key, Hash: 0})
	}
	for _, key := range []uint64{0, 9, 16} {
		a.remove(key, 0)
	}
	sameList(t, "text", a.x.Text(), []string{"x#######", "#x######", "........", "........"})
	_, is := a.x.Find(a.lens(), 77, 0)
	same(t, "there", is, false)
	a.counted("walk of 0", 3)
	_, is = a.x.Find(a.lens(), 77, 2<<7)
	same(t, "there", is, false)
	a.counted("walk of 2", 1)
	a.put(api.Entry{Key: 77})
	a.put(api.Entry{Key: 78})
	a.put(api.Entry{Key: 79})
	sameList(t, "text", a.x.Text(), []string{"########", "########", "........", "#......."})
}

// P9.1: of each key that is let go, all others are found behind it.
func TestDeleteOfEachKey(t *testing.T) {
	for _, groups := range []int{1, 2, 4} {
		for _, h := range hashings() {
			for gone := range uint64(7 * groups) {
				a := newAll(t, groups, h.name)
				lay(a, uint64(7*groups), h)
				for key := range uint64(7 * groups) {
					a.keys[key] = h.of(key)
				}
				a.remove(gone+5000, h.of(gone+5000))
				a.remove(gone, h.of(gone))
				a.remove(gone, h.of(gone))
				same(t, "entries", a.x.Len(), 7*groups-1)
			}
		}
	}
}

// P9.1: in every order in which all are let go.
func TestDeleteOfAll(t *testing.T) {
	for _, h := range hashings() {
		for _, by := range []uint64{1, 27, 5, 11} {
			a := newAll(t, 4, h.name)
			fill(a, h)
			for n := range uint64(28) {
				key := n * by % 28
				a.remove(key, h.of(key))
			}
			same(t, "entries", a.x.Len(), 0)
		}
	}
}

// P9.1: tables in which keys are there and not: without entries, with some, with deleted slots ahead of the key, and ones of which nothing is left.
func tablesToSeekIn(t *testing.T, h hashing) []*all {
	var list []*all
	for _, groups := range []int{1, 2, 4} {
		none, some, holed, full, worn := newAll(t, groups, "none"), newAll(t, groups, "some"), newAll(t, groups, "holed"), newAll(t, groups, "full"), newAll(t, groups, "worn")
		for key := range uint64(7*groups - 2) {
			some.put(entryOf(key, h))
			holed.put(entryOf(key, h))
		}
		for _, a := range []*all{full, worn} {
			fill(a, h)
		}
		for _, key := range []uint64{1, 4} {
			holed.remove(key, h.of(key))
			worn.remove(key, h.of(key))
		}
		for _, a := range []*all{none, some, holed, full, worn} {
			a.what += " of " + strconv.Itoa(groups) + " groups, " + h.name
			list = append(list, a)
		}
	}
	return list
}

// P9.1
func TestEachCallOfASpot(t *testing.T) {
	for _, h := range hashings() {
		for _, key := range []uint64{0, 1, 2, 4, 5, 11, 12, 25, 26, 27, 90, greatest} {
			hash := h.of(key)
			for _, do := range []func(a *all){
				func(a *all) { a.replace(a.seek(key, hash), key, hash, 7) },
				func(a *all) { a.letGo(a.seek(key, hash), key, hash) },
				func(a *all) { a.place(a.seek(key, hash), key, hash, api.Entry{Key: key, Val: 8, Hash: hash}) },
				func(a *all) { a.place(a.seek(key, hash), key, hash, api.Entry{Key: key + 700, Val: 8, Hash: hash}) },
			} {
				for _, a := range tablesToSeekIn(t, h) {
					do(a)
				}
			}
		}
	}
}

// P9.1: another hash of the same lower part, of the same upper part, and of neither; none of these is found behind it.
func TestPlaceOfAnotherEntryThanWasLookedFor(t *testing.T) {
	for _, groups := range []int{1, 2, 8} {
		x := makeNew(t, groups)
		s := x.Seek(meter.Lens{}, 5, 0x1234)
		before := kept(t, x)
		for _, e := range []api.Entry{
			{Key: 6, Val: 1, Hash: 0x1234}, {Key: 4, Hash: 0x1234}, {Key: 5 | 1<<63, Hash: 0x1234}, {Hash: 0x1234},
			{Key: 5, Hash: 0x1235}, {Key: 5, Hash: 0x1234 + 128}, {Key: 5, Hash: 0x1234 | 1<<63}, {Key: 5},
			{Key: 6, Hash: 0x1235}, {},
		} {
			sameError(t, "another one", s.Place(e), api.ErrKind)
			sameList(t, "another one", kept(t, x), before)
		}
		sameError(t, "that one", s.Place(api.Entry{Key: 5, Val: 9, Hash: 0x1234}), nil)
		e, is := x.Find(meter.Lens{}, 5, 0x1234)
		same(t, "that one", e, api.Entry{Key: 5, Val: 9, Hash: 0x1234})
		same(t, "that one", is, true)
	}
}

// P9.1: ErrDup ahead of ErrKind, and that ahead of ErrFull.
func TestWhichErrorPlaceTells(t *testing.T) {
	x := makeNew(t, 1)
	for key := range uint64(7) {
		x.Put(meter.Lens{}, api.Entry{Key: key, Val: 1, Hash: key})
	}
	before := kept(t, x)
	there, other := x.Seek(meter.Lens{}, 3, 3), x.Seek(meter.Lens{}, 8, 8)
	for _, e := range []api.Entry{{Key: 3, Hash: 3}, {Key: 4, Hash: 4}, {Key: 3, Hash: 4}, {Key: 8, Hash: 8}, {Key: 9, Hash: 9}} {
		sameError(t, "there", there.Place(e), api.ErrDup)
	}
	sameError(t, "another key", other.Place(api.Entry{Key: 9, Hash: 8}), api.ErrKind)
	sameError(t, "another hash", other.Place(api.Entry{Key: 8, Hash: 9}), api.ErrKind)
	sameError(t, "one that is there", other.Place(api.Entry{Key: 3, Hash: 3}), api.ErrKind)
	sameError(t, "nothing is left", other.Place(api.Entry{Key: 8, Hash: 8}), api.ErrFull)
	sameError(t, "isn't there", other.Replace(5), api.ErrNone)
	sameError(t, "isn't there", other.Remove(), api.ErrNone)
	sameList(t, "then", kept(t, x), before)
}

// P9.1: a spot holds until the table is changed in another way than by it: so each order of four of its calls, of the spot and of a copy in turns, is as if it was sought anew.
func TestASpotHoldsBehindItsOwnCalls(t *testing.T) {
	const long = 4
	for _, h := range []hashing{hashings()[0], hashings()[5]} {
		for order := range 1 << (2 * long) {
			for _, key := range []uint64{1, 12, 25, 90} {
				hash := h.of(key)
				for _, a := range tablesOfTwoAndFour(t, h) {
					s := a.seek(key, hash)
					for left, n := order, 0; n < long; n++ {
						copied := s
						switch left % 4 {
						case 0:
							copied.Entry()
							a.replace(s, key, hash, uint64(n))
						case 1:
							a.place(copied, key, hash, api.Entry{Key: key, Val: 50, Hash: hash})
						case 2:
							a.letGo(s, key, hash)
						case 3:
							a.place(s, key, hash, api.Entry{Key: key, Val: 60, Hash: hash + 1})
						}
						left /= 4
					}
				}
			}
		}
	}
}

// tablesOfTwoAndFour are made without holding each step, since they are made so often.
func tablesOfTwoAndFour(t *testing.T, h hashing) []*all {
	var list []*all
	for _, groups := range []int{2, 4} {
		for _, c := range []struct {
			spare int
			gone  []uint64
		}{{0, nil}, {1, nil}, {0, []uint64{3, 10}}, {1, []uint64{3, 10}}, {3, []uint64{3, 10}}} {
			a := newAll(t, groups, strconv.Itoa(groups)+" groups, "+h.name)
			lay(a, uint64(7*groups-c.spare), h)
			for _, key := range c.gone {
				a.x.Delete(meter.Lens{}, key, h.of(key))
				a.s.remove(key, h.of(key))
				delete(a.plain, key)
			}
			list = append(list, a)
		}
	}
	return list
}

// lay puts entries of the keys below a bound, without holding each one.
func lay(a *all, below uint64, h hashing) {
	for key := range below {
		e := entryOf(key, h)
		a.x.Put(meter.Lens{}, e)
		a.s.put(e)
		a.plain[key] = e
	}
}

// P9.1: a spot whose table was changed in another way answers something, and its room may be gone.
func TestASpotThatHoldsNoMorePanicsNot(t *testing.T) {
	for _, groups := range []int{1, 2, 4} {
		x := makeNew(t, groups)
		free, there := x.Seek(meter.Lens{}, 900, 0), x.Seek(meter.Lens{}, 3, 0)
		for key := range uint64(7 * groups) {
			x.Put(meter.Lens{}, api.Entry{Key: key, Val: 1})
			for _, s := range []Spot{free, there} {
				s.Entry()
				s.Replace(4)
			}
		}
		for g := range groups {
			x.Take(meter.Lens{}, g)
			for _, s := range []Spot{free, there} {
				s.Entry()
				s.Replace(4)
				s.Remove()
				s.Place(api.Entry{Key: 3})
				s.Place(api.Entry{Key: 900})
			}
		}
	}
	x := makeNew(t, 2)
	s := x.Seek(meter.Lens{}, 900, 0)
	for key := range uint64(8) {
		x.Put(meter.Lens{}, api.Entry{Key: key})
	}
	if err := s.Place(api.Entry{Key: 900}); err == nil || x.Len() != 8 {
		t.Fatalf("a group with nine entries: %v, %d", err, x.Len())
	}
}

// P9.1: the zero Table and the zero Spot are nothing, and panic no more than others.
func TestZeroValuesPanicNot(t *testing.T) {
	var x Table
	var m meter.Meter
	_, is := x.Find(m.Probing(), 0, 0)
	same(t, "Find", is, false)
	_, err := x.Put(m.Probing(), api.Entry{})
	sameError(t, "Put", err, api.ErrFull)
	_, is = x.Delete(m.Probing(), 0, 0)
	same(t, "Delete", is, false)
	_, is = x.Least(m.Probing(), 0, 0)
	same(t, "Least", is, false)
	sameError(t, "Prepare", x.Prepare(m.Probing(), 0), api.ErrRange)
	same(t, "Text", len(x.Text()), 0)
	for _, s := range []Spot{{}, x.Seek(m.Probing(), 0, 0)} {
		_, is = s.Entry()
		same(t, "Entry", is, false)
		sameError(t, "Replace", s.Replace(1), api.ErrNone)
		sameError(t, "Remove", s.Remove(), api.ErrNone)
		sameError(t, "Place", s.Place(api.Entry{}), api.ErrFull)
	}
	same(t, "counted", m.All(), meter.Counts{})
}

// P9.1: each group, and each again: from slot 0 on, and one look each time.
func TestTakeOfEachGroup(t *testing.T) {
	for _, groups := range []int{1, 2, 4, 8} {
		for _, h := range hashings() {
			for _, works := range []bool{false, true} {
				a := newAll(t, groups, h.name)
				a.works = works
				fill(a, h)
				for g := range groups {
					a.take(g)
					a.take(g)
				}
				same(t, "entries", a.x.Len(), 0)
				for g, signs := range a.x.Text() {
					if signs != "........" && signs != "xxxxxxxx" {
						t.Fatalf("%s: group %d, behind Take: %s", a.what, g, signs)
					}
				}
			}
		}
	}
}

// P9.1: let go one by one: of a full group no slot is empty when the first one goes, so all are deleted; of others all are empty. What stood there may be put again, as far as something is left.
func TestWhatIsThereBehindATake(t *testing.T) {
	a := newAll(t, 2, "two groups")
	for key := range uint64(11) {
		a.put(api.Entry{Key: key, Val: key})
	}
	sameList(t, "text", a.x.Text(), []string{"########", "###....."})
	a.take(0)
	sameList(t, "text", a.x.Text(), []string{"xxxxxxxx", "###....."})
	same(t, "tombs", a.x.Tombs(), 8)
	same(t, "left", a.x.Left(), 3)
	a.take(1)
	sameList(t, "text", a.x.Text(), []string{"xxxxxxxx", "........"})
	same(t, "left", a.x.Left(), 6)
	for key := range uint64(11) {
		a.put(api.Entry{Key: key, Val: 2 * key})
	}
	sameList(t, "text", a.x.Text(), []string{"########", "###....."})
	a.remove(2, 0)
	a.remove(5, 0)
	a.take(0)
	sameList(t, "text", a.x.Text(), []string{"xxxxxxxx", "###....."})
}

// P9.1: a table of which some groups were taken still has the others.
func TestTakeInEachOrder(t *testing.T) {
	for _, h := range hashings() {
		for _, order := range [][]int{{0, 1, 2, 3}, {3, 2, 1, 0}, {2, 0, 3, 1}, {1, 1, 2, 2}} {
			a := newAll(t, 4, h.name)
			fill(a, h)
			for n, g := range order {
				a.take(g)
				a.put(entryOf(uint64(300+n), h))
				a.remove(uint64(4*n), h.of(uint64(4*n)))
			}
		}
	}
}

// P9.1: at a hash and key below all, at each one, between two of the same hash, beside each, and above all.
func TestLeast(t *testing.T) {
	for _, groups := range []int{1, 2, 8, 64} {
		a := newAll(t, groups, strconv.Itoa(groups)+" groups")
		for _, e := range []api.Entry{
			{Key: 10, Val: 1, Hash: 500}, {Key: 20, Val: 2, Hash: 500}, {Key: 30, Val: 3, Hash: 500},
			{Key: 5, Val: 4, Hash: 700}, {Key: 900, Val: 5, Hash: 100}, {Key: 40, Val: 6, Hash: 1 << 63}, {Key: 15, Val: 7, Hash: 501},
		} {
			a.put(e)
			for _, hash := range []uint64{0, 1, 100, 500, 502, 600, 700, 1 << 62, 1 << 63, greatest} {
				for _, key := range []uint64{0, 5, 7, 10, 12, 15, 20, 25, 30, 35, 40, 900, greatest} {
					a.least(hash, key)
				}
			}
		}
		for _, c := range []struct {
			hash, key, val uint64
			is             bool
		}{
			{0, 0, 5, true}, {100, 900, 5, true}, {100, 901, 1, true}, {500, 0, 1, true}, {500, 10, 1, true}, {500, 11, 2, true}, {500, 15, 2, true},
			{500, 21, 3, true}, {500, 31, 7, true}, {501, 16, 4, true}, {701, 0, 6, true}, {1 << 63, 40, 6, true}, {1 << 63, 41, 0, false}, {greatest, greatest, 0, false},
		} {
			e, is := a.x.Least(meter.Lens{}, c.hash, c.key)
			same(t, text(c.hash)+" "+text(c.key), e.Val, c.val)
			same(t, text(c.hash)+" "+text(c.key), is, c.is)
		}
	}
}

// P9.1: the edges of hashes and keys: 0 and 0 may be an entry, and so may the greatest of both.
func TestLeastAtTheEdges(t *testing.T) {
	a := newAll(t, 2, "edges")
	for _, e := range []api.Entry{{Key: greatest, Val: 1, Hash: greatest}, {Key: 0, Val: 0, Hash: 0}, {Key: 1, Val: 0, Hash: greatest}, {Key: greatest - 1, Val: 0, Hash: 0}} {
		a.put(e)
		for _, hash := range []uint64{0, greatest} {
			for _, key := range []uint64{0, 1, greatest} {
				a.least(hash, key)
			}
		}
	}
	a.remove(0, 0)
	a.least(0, 0)
	e, is := a.x.Least(meter.Lens{}, greatest, greatest)
	same(t, "the greatest", e, api.Entry{Key: greatest, Val: 1, Hash: greatest})
	same(t, "the greatest", is, true)
}

// P9.1: from each one the next one: all entries come in their order, each once.
func TestLeastGoesThroughAll(t *testing.T) {
	for _, h := range hashings() {
		a := newAll(t, 8, h.name)
		fill(a, h)
		for key := uint64(0); key < 56; key += 3 {
			a.remove(key, h.of(key))
		}
		var want, got []api.Entry
		for _, e := range a.plain {
			want = append(want, e)
		}
		slices.SortFunc(want, inOrder)
		e, is := a.x.Least(a.lens(), 0, 0)
		for is && len(got) <= len(want) {
			a.counted(h.name, 8)
			got = append(got, e)
			e, is = a.x.Least(a.lens(), e.Hash, e.Key+1)
		}
		sameList(t, h.name, got, want)
	}
}

// P9.1: what is answered is the caller's: writing over it changes nothing else.
func TestWhatIsAnsweredIsTheCallers(t *testing.T) {
	a := newAll(t, 2, "two groups")
	for key := range uint64(11) {
		a.put(api.Entry{Key: key, Val: key})
	}
	for g := range 2 {
		list, err := a.x.Scan(meter.Lens{}, g)
		sameError(t, "Scan", err, nil)
		again, _ := a.x.Scan(meter.Lens{}, g)
		want := slices.Clone(list)
		for i := range list {
			list[i] = api.Entry{Key: 90, Val: 91, Hash: 92}
		}
		sameList(t, "another list", again, want)
		a.hold("Scan, written over")
	}
	lines := a.x.Text()
	for i := range lines {
		lines[i] = "?"
	}
	a.hold("Text, written over")
	taken, _ := a.x.Take(meter.Lens{}, 1)
	want := slices.Clone(taken)
	for i := range uint64(3) {
		a.x.Put(meter.Lens{}, api.Entry{Key: 50 + i, Val: 9})
	}
	sameList(t, "taken, and others put", taken, want)
}

// P9.1
func TestTablesShareNothing(t *testing.T) {
	first, second, third := newAll(t, 2, "first"), newAll(t, 2, "second"), newAll(t, 4, "third")
	h := hashings()[0]
	for key := range uint64(14) {
		first.put(entryOf(key, h))
		second.hold("beside")
		third.put(entryOf(2*key, h))
		first.hold("beside")
	}
	second.put(entryOf(3, h))
	first.take(0)
	third.remove(4, h.of(4))
	first.hold("beside")
	second.hold("beside")
	third.hold("beside")
}

// P9.1: of a zero lens, and of one of no meter, all is as of others.
func TestALensThatCountsForNone(t *testing.T) {
	var none *meter.Meter
	for _, l := range []meter.Lens{{}, none.Probing(), none.Working()} {
		x := makeRaw(t, 1)
		sameError(t, "Prepare", x.Prepare(l, 0), nil)
		isNew, err := x.Put(l, api.Entry{Key: 1, Val: 2, Hash: 3})
		same(t, "Put", isNew, true)
		sameError(t, "Put", err, nil)
		e, is := x.Find(l, 1, 3)
		same(t, "Find", e.Val, uint64(2))
		same(t, "Find", is, true)
		e, is = x.Least(l, 0, 0)
		same(t, "Least", e.Val, uint64(2))
		same(t, "Least", is, true)
		list, err := x.Scan(l, 0)
		same(t, "Scan", len(list), 1)
		sameError(t, "Scan", err, nil)
		sameError(t, "Seek", x.Seek(l, 1, 3).Replace(7), nil)
		e, is = x.Delete(l, 1, 3)
		same(t, "Delete", e.Val, uint64(7))
		same(t, "Delete", is, true)
	}
}

// P9.1: no call works at something that is maintained: a meter with a limit of no units is asked by all.
func TestNoCallCountsUnits(t *testing.T) {
	for _, works := range []bool{false, true} {
		a := newAll(t, 2, "limited")
		a.works = works
		a.m.Limit(0)
		fill(a, hashings()[5])
		a.remove(3, a.keys[3])
		a.replace(a.seek(4, a.keys[4]), 4, a.keys[4], 5)
		a.letGo(a.seek(4, a.keys[4]), 4, a.keys[4])
		a.least(0, 0)
		a.take(0)
		sameError(t, "Prepare", a.x.Prepare(a.lens(), 0), nil)
		same(t, "units", a.m.All().Units, 0)
	}
}

// call is one of the calls that change a table, or might.
type call struct {
	name string
	do   func(a *all)
}

func calls(h hashing) []call {
	put := func(key, val uint64) func(a *all) {
		return func(a *all) { a.put(api.Entry{Key: key, Val: val, Hash: h.of(key)}) }
	}
	remove := func(key uint64) func(a *all) { return func(a *all) { a.remove(key, h.of(key)) } }
	return []call{
		{"p0", put(0, 70)},
		{"p9", put(9, 71)},
		{"p50", put(50, 72)},
		{"p51", put(51, 73)},
		{"d0", remove(0)},
		{"d9", remove(9)},
		{"d50", remove(50)},
		{"t0", func(a *all) { a.take(0) }},
		{"t1", func(a *all) { a.take(1) }},
		{"t2", func(a *all) { a.take(2) }},
		{"r9", func(a *all) { a.replace(a.seek(9, h.of(9)), 9, h.of(9), 80) }},
		{"l9", func(a *all) { a.letGo(a.seek(9, h.of(9)), 9, h.of(9)) }},
		{"s50", func(a *all) {
			a.place(a.seek(50, h.of(50)), 50, h.of(50), api.Entry{Key: 50, Val: 81, Hash: h.of(50)})
		}},
	}
}

// P9.1: each order of so many calls out of all kinds, from tables without entries on, from half full ones, and from ones of which one slot or none is left.
func TestEveryOrderOfFewCalls(t *testing.T) {
	const long = 3
	for _, h := range []hashing{hashings()[1], hashings()[5]} {
		list := calls(h)
		orders := len(list) * len(list) * len(list)
		for _, before := range []uint64{0, 8, 10, 13, 14} {
			for order := range orders {
				a := newAll(t, 2, h.name)
				lay(a, before, h)
				for key := range before {
					a.keys[key] = h.of(key)
				}
				for left, n := order, 0; n < long; n++ {
					next := list[left%len(list)]
					a.what += " " + next.name
					next.do(a)
					left /= len(list)
				}
			}
		}
	}
}

// some gives numbers without a pattern.
func some() func(below int) int {
	x := uint64(88172645463325252)
	return func(below int) int {
		x ^= x << 13
		x ^= x >> 7
		x ^= x << 17
		return int(x >> 11 % uint64(below))
	}
}

// P9.1, P9.2: long orders, of every size and every hashing, in which tables get full and without entries in turns; all that is told is held behind each call.
func TestLongOrders(t *testing.T) {
	next := some()
	refused, tombs := 0, 0
	for _, groups := range sizes() {
		for _, h := range hashings() {
			x := makeNew(t, groups)
			if next(2) == 0 {
				x = makeRaw(t, groups)
				for g := range groups {
					sameError(t, "Prepare", x.Prepare(meter.Lens{}, g), nil)
				}
			}
			a := allOf(t, x, strconv.Itoa(groups)+" groups, "+h.name)
			for n := range 500 {
				growing := n/125%2 == 0
				longOrderStep(a, h, next, growing)
				tombs += a.x.Tombs()
				if a.x.Left() == 0 {
					refused++
				}
			}
			sound(t, a)
		}
	}
	if refused < 1000 || tombs < 1000 {
		t.Fatalf("too little was seen: %d calls with nothing left, %d deleted slots", refused, tombs)
	}
}

// longOrderStep keeps few keys in a.keys, so that not all are looked for behind each call.
func longOrderStep(a *all, h hashing, next func(int) int, growing bool) {
	a.t.Helper()
	if len(a.keys) > 12 {
		clear(a.keys)
	}
	key := uint64(next(10 * len(a.s.groups)))
	hash := h.of(key)
	a.works = next(2) == 0
	kind := next(20)
	if growing && 8 <= kind && kind < 13 || !growing && kind < 5 {
		kind = 20 - kind // puts for deletes, or the other way round
	}
	switch {
	case kind < 8:
		a.put(api.Entry{Key: key, Val: uint64(next(1000)), Hash: hash})
	case kind < 13:
		a.remove(key, hash)
	case kind < 14:
		a.take(next(len(a.s.groups)+2) - 1)
	case kind < 15:
		a.least(hash, key)
	case kind < 16:
		a.replace(a.seek(key, hash), key, hash, uint64(next(1000)))
	case kind < 17:
		a.letGo(a.seek(key, hash), key, hash)
	default:
		a.place(a.seek(key, hash), key, hash, api.Entry{Key: key, Val: uint64(next(1000)), Hash: hash})
	}
}

// sound holds what a table has against the plain map, by its answers alone: each key stands there once, and no other one.
func sound(t *testing.T, a *all) {
	t.Helper()
	got := map[uint64]api.Entry{}
	for g := range a.x.Groups() {
		list, err := a.x.Scan(meter.Lens{}, g)
		sameError(t, "Scan", err, nil)
		for _, e := range list {
			if _, is := got[e.Key]; is {
				t.Fatalf("%s: key %d stands there twice", a.what, e.Key)
			}
			got[e.Key] = e
			same(t, a.what+", stands there", e, a.plain[e.Key])
		}
	}
	same(t, a.what+", entries", len(got), len(a.plain))
	for key, want := range a.plain {
		e, is := a.x.Find(meter.Lens{}, key, want.Hash)
		same(t, a.what+", found", e, want)
		same(t, a.what+", found", is, true)
	}
}

// P9.2: told by the answers alone, without a slow table: what was put last is what is found, of all hashings, and no search looks at more groups than there are, or at none.
func TestATableIsAPartialFunction(t *testing.T) {
	next := some()
	for _, groups := range sizes() {
		for _, h := range hashings() {
			x, m, plain := makeNew(t, groups), &meter.Meter{}, map[uint64]uint64{}
			searched := func() {
				t.Helper()
				if looks := m.Last().Probes; looks < 1 || looks > groups {
					t.Fatalf("%d looks at %d groups", looks, groups)
				}
				m.Reset()
			}
			for n := range 3000 {
				key, val := uint64(next(9*groups)), uint64(n)
				was, there := plain[key]
				switch next(5) {
				case 0, 1, 2:
					isNew, err := x.Put(m.Probing(), api.Entry{Key: key, Val: val, Hash: h.of(key)})
					searched()
					if err == nil {
						same(t, "is new", isNew, !there)
						plain[key] = val
					} else if there || len(plain)+x.Tombs() < 7*groups {
						t.Fatalf("refused: %v", err)
					}
				case 3:
					e, is := x.Delete(m.Probing(), key, h.of(key))
					searched()
					same(t, "deleted", e.Val, was)
					same(t, "deleted", is, there)
					delete(plain, key)
				case 4:
					e, is := x.Find(m.Probing(), key, h.of(key))
					searched()
					same(t, "found", e.Val, was)
					same(t, "found", is, there)
				}
				same(t, "entries", x.Len(), len(plain))
			}
			for key := range uint64(9 * groups) {
				e, is := x.Find(m.Probing(), key, h.of(key))
				searched()
				want, there := plain[key]
				same(t, "found", e.Val, want)
				same(t, "found", is, there)
			}
		}
	}
}
