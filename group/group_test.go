package group

import (
	"errors"
	"math"
	"slices"
	"strconv"
	"testing"

	"ambler/api"
	"ambler/meter"
)

// The tests hold each call against a slow group: a list of eight slots, each with its sign and its entry, looked at one by one, without a control word. All groups that the calls can make are gone through, with each call at each slot.

const lanes = 8

type slot struct {
	sign byte // '.', 'x' or '#'
	e    api.Entry
}

// slow is a group as a list of slots.
type slow struct {
	slots [lanes]slot
}

func newSlow() *slow {
	s := &slow{}
	s.clear()
	return s
}

func (s *slow) clear() {
	for i := range s.slots {
		s.slots[i] = slot{sign: '.'}
	}
}

func (s *slow) count(sign byte) int {
	n := 0
	for _, each := range s.slots {
		if each.sign == sign {
			n++
		}
	}
	return n
}

// find divides, where the layer has masks.
func (s *slow) find(key, hash uint64) int {
	for i, each := range s.slots {
		if each.sign == '#' && each.e.Key == key && each.e.Hash%128 == hash%128 {
			return i
		}
	}
	return -1
}

func (s *slow) at(i int) (api.Entry, bool) {
	for k, each := range s.slots {
		if k == i && each.sign == '#' {
			return each.e, true
		}
	}
	return api.Entry{}, false
}

func (s *slow) free() int {
	for i, each := range s.slots {
		if each.sign != '#' {
			return i
		}
	}
	return -1
}

// wrong is what is to be told of a slot that should be full, or should not.
func (s *slow) wrong(i int, full bool) error {
	switch {
	case i < 0, i > 7:
		return api.ErrRange
	case full && s.slots[i].sign != '#', !full && s.slots[i].sign == '#':
		return api.ErrState
	}
	return nil
}

func (s *slow) put(i int, e api.Entry) (bool, error) {
	if err := s.wrong(i, false); err != nil {
		return false, err
	}
	deleted := s.slots[i].sign == 'x'
	s.slots[i] = slot{'#', e}
	return deleted, nil
}

func (s *slow) set(i int, val uint64) error {
	if err := s.wrong(i, true); err != nil {
		return err
	}
	s.slots[i].e.Val = val
	return nil
}

func (s *slow) erase(i int) (bool, error) {
	if err := s.wrong(i, true); err != nil {
		return false, err
	}
	sign := byte('x')
	for k, each := range s.slots {
		if k != i && each.sign == '.' {
			sign = '.'
		}
	}
	s.slots[i] = slot{sign: sign}
	return sign == 'x', nil
}

func (s *slow) entries() []api.Entry {
	list := []api.Entry{}
	for _, each := range s.slots {
		if each.sign == '#' {
			list = append(list, each.e)
		}
	}
	return list
}

func (s *slow) text() string {
	text := ""
	for _, each := range s.slots {
		text += string(each.sign)
	}
	return text
}

// both is a group and a slow one of which each is given what the other one is.
type both struct {
	t    *testing.T
	what string
	g    *Group
	s    *slow
	m    *meter.Meter
	v    View // the one that was got first, which is asked all along
}

func newBoth(t *testing.T, what string) *both {
	b := &both{t: t, what: what, g: New(), s: newSlow(), m: &meter.Meter{}}
	b.v = b.g.Look(b.m.Probing())
	return b
}

func (b *both) put(i int, e api.Entry) {
	b.t.Helper()
	was, err := b.v.Put(i, e)
	want, wantErr := b.s.put(i, e)
	what := b.what + ", put at " + strconv.Itoa(i)
	same(b.t, what, was, want)
	sameError(b.t, what, err, wantErr)
	b.hold(what)
}

func (b *both) set(i int, val uint64) {
	b.t.Helper()
	what := b.what + ", set at " + strconv.Itoa(i)
	sameError(b.t, what, b.v.Set(i, val), b.s.set(i, val))
	b.hold(what)
}

func (b *both) erase(i int) {
	b.t.Helper()
	is, err := b.v.Erase(i)
	want, wantErr := b.s.erase(i)
	what := b.what + ", erase at " + strconv.Itoa(i)
	same(b.t, what, is, want)
	sameError(b.t, what, err, wantErr)
	b.hold(what)
}

func (b *both) clear() {
	b.t.Helper()
	b.v.Clear()
	b.s.clear()
	b.hold(b.what + ", clear")
}

// hold holds all that can be asked against the slow group.
func (b *both) hold(what string) {
	b.t.Helper()
	holdView(b.t, what, b.v, b.s)
	same(b.t, what+", counted", b.m.All(), meter.Counts{Probes: 1})
}

func holdView(t *testing.T, what string, v View, s *slow) {
	t.Helper()
	same(t, what+", Text", v.Text(), s.text())
	same(t, what+", Full", v.Full(), s.count('#'))
	same(t, what+", Deleted", v.Deleted(), s.count('x'))
	same(t, what+", Open", v.Open(), s.count('.') > 0)
	same(t, what+", Free", v.Free(), s.free())
	if got, want := v.Entries(), s.entries(); !slices.Equal(got, want) {
		t.Fatalf("%s, Entries: %v, not %v", what, got, want)
	}
	for i := -1; i <= lanes; i++ {
		e, is := v.At(i)
		want, wantIs := s.at(i)
		if e != want || is != wantIs {
			t.Fatalf("%s, At(%d): %v, %v, not %v, %v", what, i, e, is, want, wantIs)
		}
	}
	for _, key := range keys() {
		for _, hash := range hashes() {
			if got, want := v.Find(key, hash), s.find(key, hash); got != want {
				t.Fatalf("%s, Find(%d, %#x): %d, not %d", what, key, hash, got, want)
			}
		}
	}
}

func same[T comparable](t *testing.T, what string, got, want T) {
	t.Helper()
	if got != want {
		t.Fatalf("%s: %v, not %v", what, got, want)
	}
}

// sameError asks by ==, not by errors.Is: the promise is that error, not one around it.
func sameError(t *testing.T, what string, got, want error) {
	t.Helper()
	if got == nil || want == nil {
		if got != nil || want != nil {
			t.Fatalf("%s: %v, not %v", what, got, want)
		}
		return
	}
	if got != want || !errors.Is(got, want) {
		t.Fatalf("%s: %v, not %v", what, got, want)
	}
}

// keys gives few keys, so that some stand in several slots; 0 is what a slot without an entry might be taken for.
func keys() []uint64 { return []uint64{0, 1, 2, math.MaxUint64} }

// hashes gives each lower part several times, with other upper parts; among the lower parts are the edges, and those that differ from the signs of empty and deleted in the highest bit alone.
func hashes() []uint64 {
	return []uint64{
		0, 0x80, ^uint64(0x7F),
		1, 0x81, 1<<63 | 1,
		0x7E, 0xFE,
		0x7F, 0xFF, math.MaxUint64,
	}
}

// entryOf is an entry of its own for each number: its value tells it from all others. Those of n and of n + 4 have one key, and mostly one lower part.
func entryOf(n int) api.Entry {
	return api.Entry{Key: keys()[n%len(keys())], Val: uint64(1000 + n), Hash: hashes()[3*n%len(hashes())]}
}

func noSlots() []int {
	return []int{-1, 8, 9, 15, 16, -8, 63, 64, 255, 256, math.MaxInt32, math.MinInt32, math.MaxInt, math.MinInt}
}

// allSlots is the eight slots and those that there aren't.
func allSlots() []int { return append([]int{0, 1, 2, 3, 4, 5, 6, 7}, noSlots()...) }

// groups gives the signs of all groups that the calls can make: what isn't full is all empty or all deleted, since a slot is deleted only when no other one is empty, and none gets empty then.
func groups() []string {
	var all []string
	for pattern := range 256 {
		for _, sign := range []byte{'.', 'x'} {
			signs := make([]byte, lanes)
			for i := range signs {
				signs[i] = '#'
				if pattern>>i&1 == 1 {
					signs[i] = sign
				}
			}
			if pattern > 0 || sign == '.' {
				all = append(all, string(signs))
			}
		}
	}
	return all
}

// makeGroup is a group of these signs, whose entries are numbered from n on.
func makeGroup(t *testing.T, signs string, n int) *both {
	t.Helper()
	b := newBoth(t, signs)
	full := func(i int) bool { return signs[i] != '.' }
	for i := range lanes {
		if full(i) {
			e := entryOf(n + i)
			must(t, b, i, e)
		}
	}
	for i := range lanes {
		if signs[i] == 'x' {
			if is, err := b.v.Erase(i); !is || err != nil {
				t.Fatalf("%s: erase at %d: %v, %v", signs, i, is, err)
			}
			b.s.slots[i] = slot{sign: 'x'}
		}
	}
	same(t, "made", b.v.Text(), signs)
	return b
}

func must(t *testing.T, b *both, i int, e api.Entry) {
	t.Helper()
	if was, err := b.v.Put(i, e); was || err != nil {
		t.Fatalf("%s: put at %d: %v, %v", b.what, i, was, err)
	}
	b.s.slots[i] = slot{'#', e}
}

// P8.1
func TestTheExample(t *testing.T) {
	v := New().Look(meter.Lens{})
	was, err := v.Put(3, api.Entry{Key: 7, Val: 8, Hash: 9})
	if was || err != nil || v.Text() != "...#...." {
		t.Fatalf("the example is %v, %v, %q", was, err, v.Text())
	}
}

// P8.1
func TestNewHasNoEntry(t *testing.T) {
	b := newBoth(t, "new")
	b.hold("new")
	same(t, "text", b.v.Text(), "........")
	same(t, "open", b.v.Open(), true)
	same(t, "free", b.v.Free(), 0)
	same(t, "found", b.v.Find(0, 0), -1)
	same(t, "entries", len(b.v.Entries()), 0)
}

// P8.1: each new group is another one.
func TestNewGroupsShareNothing(t *testing.T) {
	first, second := newBoth(t, "first"), newBoth(t, "second")
	for i := range lanes {
		first.put(i, entryOf(i))
		second.hold("beside, put")
	}
	second.put(2, entryOf(9))
	first.hold("beside, put")
	first.erase(2)
	first.set(3, 5)
	second.hold("beside, erase")
	first.clear()
	second.hold("beside, clear")
}

// P8.1: of a zero Group a Look and Clear alone are asked; behind these it is as a new one.
func TestAZeroGroupIsCleared(t *testing.T) {
	m := &meter.Meter{}
	for _, g := range []*Group{{}, new(Group), &[]Group{{}, {}}[1]} {
		m.Reset()
		v := g.Look(m.Working())
		same(t, "counted", m.Last(), meter.Counts{Visits: 1})
		v.Clear()
		same(t, "cleared, counted", m.Last(), meter.Counts{Visits: 1})
		holdView(t, "cleared", v, newSlow())
		holdView(t, "cleared, looked at again", g.Look(m.Probing()), newSlow())
		b := &both{t: t, what: "cleared", g: g, s: newSlow(), m: &meter.Meter{}}
		b.v = g.Look(b.m.Probing())
		for i := range lanes {
			b.put(i, entryOf(i))
		}
		b.erase(3)
		b.erase(0)
		b.put(3, entryOf(11))
	}
}

// P8.1
func TestEachLookCountsOneForItsLens(t *testing.T) {
	g, m, other := New(), &meter.Meter{}, &meter.Meter{}
	for i := 1; i <= 50; i++ {
		g.Look(m.Probing())
		same(t, "probed", m.All(), meter.Counts{Probes: i, Visits: 2 * (i - 1)})
		g.Look(m.Working())
		g.Look(m.Working())
		same(t, "worked", m.All(), meter.Counts{Probes: i, Visits: 2 * i})
	}
	same(t, "another meter", other.All(), meter.Counts{})
	probing := m.Probing()
	same(t, "a lens that looks at nothing", m.All(), meter.Counts{Probes: 50, Visits: 100})
	g.Look(probing)
	New().Look(probing)
	same(t, "one lens, two groups", m.All(), meter.Counts{Probes: 52, Visits: 100})
	m.Reset()
	g.Look(probing)
	same(t, "last", m.Last(), meter.Counts{Probes: 1})
}

// P8.1: of a zero lens, and of one of no meter, a Look has its view all the same.
func TestALookOfALensThatCountsForNone(t *testing.T) {
	var none *meter.Meter
	g := New()
	for i, l := range []meter.Lens{{}, none.Probing(), none.Working()} {
		was, err := g.Look(l).Put(i, entryOf(i))
		if was || err != nil || g.Look(l).Full() != i+1 {
			t.Fatalf("put at %d: %v, %v", i, was, err)
		}
	}
	same(t, "text", g.Look(meter.Lens{}).Text(), "###.....")
}

// P8.1: all calls of a view, right ones and wrong ones, at all groups.
func TestNothingButALookCounts(t *testing.T) {
	for _, signs := range groups() {
		for _, working := range []bool{false, true} {
			b := makeGroup(t, signs, 0)
			m, want := &meter.Meter{}, meter.Counts{Probes: 1}
			lens := m.Probing()
			if working {
				lens, want = m.Working(), meter.Counts{Visits: 1}
			}
			m.Limit(0) // a unit would panic
			v := b.g.Look(lens)
			same(t, signs+", looked at", m.All(), want)
			for i := -1; i <= lanes; i++ {
				v.At(i)
				v.Put(i, entryOf(i+1))
				v.Set(i, 1)
				v.Erase(i)
				v.Put(i, entryOf(i+2))
				v.Find(keys()[1], hashes()[(i+1)%len(hashes())])
				v.Free()
				v.Open()
				v.Entries()
				v.Full()
				v.Deleted()
				v.Text()
			}
			v.Clear()
			same(t, signs+", all asked", m.All(), want)
		}
	}
}

// P8.1: each view is of the group as it is, not as it was when it was looked at.
func TestViewsOfOneGroupSeeTheSame(t *testing.T) {
	b := newBoth(t, "viewed")
	others := []View{b.g.Look(meter.Lens{}), b.v, b.g.Look(meter.Lens{})}
	seen := func(what string) {
		t.Helper()
		for _, v := range append(others, b.g.Look(meter.Lens{})) {
			holdView(t, what, v, b.s)
		}
	}
	for i := range lanes {
		b.put(i, entryOf(i))
		seen("put")
	}
	b.erase(4)
	seen("erased")
	b.set(5, 55)
	seen("set")
	if was, err := others[0].Put(4, entryOf(20)); !was || err != nil {
		t.Fatalf("put by another view: %v, %v", was, err)
	}
	b.s.put(4, entryOf(20))
	seen("put by another view")
	others[2].Clear()
	b.s.clear()
	seen("cleared by another view")
}

// P8.1: at all groups, at all slots and at those that there aren't.
func TestPutAtEachSlot(t *testing.T) {
	for n, signs := range groups() {
		for _, i := range allSlots() {
			makeGroup(t, signs, n).put(i, entryOf(n+31))
		}
	}
}

// P8.1
func TestPutTellsWhatStoodThere(t *testing.T) {
	for i := range lanes {
		e := api.Entry{Key: 1, Val: 2, Hash: 3}
		v := New().Look(meter.Lens{})
		if was, err := v.Put(i, e); was || err != nil {
			t.Fatalf("at an empty slot %d: %v, %v", i, was, err)
		}
		was, err := v.Put(i, api.Entry{Key: 9, Val: 9, Hash: 9})
		same(t, "at a full slot, was", was, false)
		sameError(t, "at a full slot", err, api.ErrState)
		got, _ := v.At(i)
		same(t, "at a full slot, stays", got, e)
		full := makeGroup(t, "########", 0).v
		full.Erase(i)
		if was, err := full.Put(i, e); !was || err != nil {
			t.Fatalf("at a deleted slot %d: %v, %v", i, was, err)
		}
		same(t, "at a deleted slot, text", full.Text(), "########")
	}
}

// P8.1: all of an entry stands there, whatever it is.
func TestPutKeepsTheWholeEntry(t *testing.T) {
	numbers := []uint64{0, 1, 5, 0x7F, 0x80, 0xFE, 0xFF, 1 << 32, 1 << 63, math.MaxUint64}
	for i := range lanes {
		for _, key := range numbers {
			for _, val := range numbers {
				for _, hash := range numbers {
					e := api.Entry{Key: key, Val: val, Hash: hash}
					v := New().Look(meter.Lens{})
					if was, err := v.Put(i, e); was || err != nil {
						t.Fatalf("put of %v: %v, %v", e, was, err)
					}
					got, is := v.At(i)
					same(t, "at", got, e)
					same(t, "is", is, true)
					same(t, "found", v.Find(key, hash), i)
				}
			}
		}
	}
}

// P8.1: at all groups, at all slots and at those that there aren't.
func TestSetAtEachSlot(t *testing.T) {
	for n, signs := range groups() {
		for _, i := range allSlots() {
			for _, val := range []uint64{0, 7, math.MaxUint64} {
				makeGroup(t, signs, n).set(i, val)
			}
		}
	}
}

// P8.1: at all groups, so at those in which another slot is empty and at those in which none is.
func TestEraseAtEachSlot(t *testing.T) {
	for n, signs := range groups() {
		for _, i := range allSlots() {
			makeGroup(t, signs, n).erase(i)
		}
	}
}

// P8.1
func TestEraseTellsWhatIsThere(t *testing.T) {
	for _, c := range []struct {
		signs string
		i     int
		gone  bool
		then  string
	}{
		{"#.......", 0, false, "........"},
		{".......#", 7, false, "........"},
		{"#######.", 0, false, ".######."},
		{".#######", 7, false, ".######."},
		{"########", 0, true, "x#######"},
		{"########", 7, true, "#######x"},
		{"x#######", 7, true, "x######x"},
		{"xxxxxxx#", 7, true, "xxxxxxxx"},
	} {
		b := makeGroup(t, c.signs, 0)
		gone, err := b.v.Erase(c.i)
		same(t, c.signs+", deleted", gone, c.gone)
		sameError(t, c.signs, err, nil)
		same(t, c.signs+", then", b.v.Text(), c.then)
	}
}

// P8.1: what is let go isn't found any more, nor is it there behind a Put of another one.
func TestWhatIsErasedIsGone(t *testing.T) {
	for _, signs := range []string{"########", "####.###"} {
		for i := range lanes {
			if signs[i] != '#' {
				continue
			}
			b := makeGroup(t, signs, 0)
			e := api.Entry{Key: 77, Val: 78, Hash: 0x12345}
			b.erase(i)
			b.put(i, e)
			same(t, "found", b.v.Find(77, 0x12345), i)
			b.erase(i)
			same(t, "erased", b.v.Find(77, 0x12345), -1)
			b.put(i, api.Entry{Key: 79, Hash: 0x12345})
			same(t, "another one in its slot", b.v.Find(77, 0x12345), -1)
			got, _ := b.v.At(i)
			same(t, "at", got, api.Entry{Key: 79, Hash: 0x12345})
		}
	}
}

// P8.1
func TestFindIsTheLeastFullSlotOfTheKeyAndTheLowerPart(t *testing.T) {
	const upper, other = 0xABCDEF << 7, 0x13579 << 7
	b := newBoth(t, "find")
	b.put(1, api.Entry{Key: 5, Hash: upper | 4})
	b.put(2, api.Entry{Key: 6, Hash: upper | 3})
	b.put(3, api.Entry{Key: 5, Hash: upper | 3})
	b.put(5, api.Entry{Key: 5, Hash: other | 3})
	b.put(6, api.Entry{Key: 5, Hash: upper | 4})
	find := func(what string, key, hash uint64, want int) {
		t.Helper()
		same(t, what, b.v.Find(key, hash), want)
	}
	find("behind another lower part, and behind another key", 5, upper|3, 3)
	find("another upper part", 5, other|3, 3)
	find("no upper part", 5, 3, 3)
	find("an upper part of all bits", 5, ^uint64(0x7F)|3, 3)
	find("the lower part of the first", 5, upper|4, 1)
	find("another key of the lower part", 6, other|3, 2)
	find("a key that isn't there", 7, upper|3, -1)
	find("a lower part that isn't there", 5, upper|2, -1)
	find("a key that is there of another lower part", 6, upper|4, -1)
	find("a lower part in the upper part alone", 6, 3<<7, -1)
	b.erase(3)
	find("the next one", 5, upper|3, 5)
	b.erase(5)
	find("none", 5, upper|3, -1)
	b.put(0, api.Entry{Key: 5, Hash: 3})
	find("put again", 5, other|3, 0)
}

// P8.1: one key in all slots, each of its own lower part; then each of the same one.
func TestFindOfOneKeyInAllSlots(t *testing.T) {
	b := newBoth(t, "one key")
	for i := range lanes {
		b.put(i, api.Entry{Key: 5, Hash: uint64(i)<<20 | uint64(i*18)})
	}
	for i := range lanes {
		for h := range 128 {
			want := -1
			if h%18 == 0 {
				want = h / 18
			}
			same(t, "of each lower part", b.v.Find(5, uint64(h)), want)
		}
		same(t, "of each upper part", b.v.Find(5, uint64(i+1)<<20|uint64(i*18)), i)
	}
	b.clear()
	for i := lanes - 1; i >= 0; i-- {
		b.put(i, api.Entry{Key: 5, Hash: uint64(i)<<20 | 9})
		same(t, "the least one", b.v.Find(5, 9), i)
	}
	for i := range lanes - 1 {
		b.erase(i)
		same(t, "the least one that is left", b.v.Find(5, 9), i+1)
	}
	b.erase(7)
	same(t, "none is left", b.v.Find(5, 9), -1)
}

// P8.1: neither a slot that was never full nor one that was let go is found, by whatever lower part.
func TestFindOfSlotsThatArentFull(t *testing.T) {
	none := func(what string, v View) {
		t.Helper()
		for h := range uint64(1024) {
			for key := range uint64(lanes) {
				same(t, what, v.Find(key, h), -1)
			}
		}
	}
	v := New().Look(meter.Lens{})
	fill := func() {
		for i := range lanes {
			v.Put(i, api.Entry{Key: uint64(i), Hash: uint64(i * 18)})
		}
	}
	none("never full", v)
	fill()
	for i := range lanes {
		v.Erase(i)
	}
	none("deleted", v)
	fill()
	v.Clear()
	none("cleared", v)
	v.Put(7, api.Entry{Key: 7, Hash: 126})
	v.Erase(7)
	none("empty again", v)
}

// Nothing asks for it, but what is let go needn't be kept.
func TestWhatIsLetGoIsNotKept(t *testing.T) {
	for _, signs := range []string{"########", "#######.", "xx######"} {
		b := makeGroup(t, signs, 1)
		for i := range lanes {
			b.erase(i)
		}
		same(t, signs, b.g.entries, [lanes]api.Entry{})
		b.put(2, entryOf(1))
		b.clear()
		same(t, signs+", cleared", b.g.entries, [lanes]api.Entry{})
	}
}

// P8.1
func TestEachGroupAnswers(t *testing.T) {
	for n, signs := range groups() {
		b := makeGroup(t, signs, n)
		b.hold(signs)
		for _, i := range noSlots() {
			e, is := b.v.At(i)
			same(t, signs+", at no slot", e, api.Entry{})
			same(t, signs+", at no slot, is", is, false)
		}
	}
}

// P8.1: the named ones, by their numbers.
func TestCountsOfEachKindOfGroup(t *testing.T) {
	for _, c := range []struct {
		signs               string
		free, full, deleted int
		open                bool
	}{
		{"........", 0, 0, 0, true},
		{"#.......", 1, 1, 0, true},
		{"#######.", 7, 7, 0, true},
		{".#######", 0, 7, 0, true},
		{"########", -1, 8, 0, false},
		{"x#######", 0, 7, 1, false},
		{"#######x", 7, 7, 1, false},
		{"##x#x###", 2, 6, 2, false},
		{"xxxxxxxx", 0, 0, 8, false},
	} {
		v := makeGroup(t, c.signs, 3).v
		same(t, c.signs+", Free", v.Free(), c.free)
		same(t, c.signs+", Full", v.Full(), c.full)
		same(t, c.signs+", Deleted", v.Deleted(), c.deleted)
		same(t, c.signs+", Open", v.Open(), c.open)
		same(t, c.signs+", Entries", len(v.Entries()), c.full)
	}
}

// P8.1: behind it each group is as a new one, for all that is done then.
func TestClearOfEachGroup(t *testing.T) {
	for n, signs := range groups() {
		b := makeGroup(t, signs, n)
		b.clear()
		same(t, signs+", cleared", b.v.Text(), "........")
		b.clear()
		for i := range lanes {
			b.erase(i)
			b.set(i, 3)
			must(t, b, i, entryOf(n+i+5))
		}
		b.hold(signs + ", filled again")
	}
}

// P8.1: what is answered is the caller's.
func TestWhatIsAnsweredIsNotTheGroups(t *testing.T) {
	b := makeGroup(t, "##.####.", 0)
	list, again := b.v.Entries(), b.v.Entries()
	kept := slices.Clone(list)
	for i := range list {
		list[i] = api.Entry{Key: 90, Val: 91, Hash: 92}
	}
	_ = append(list[:2], api.Entry{}, api.Entry{})
	b.hold("written over")
	if !slices.Equal(again, kept) {
		t.Fatalf("another answer was written over: %v, not %v", again, kept)
	}
	e, _ := b.v.At(0)
	e.Val = 93
	b.hold("written over at")
	b.set(0, 94)
	b.erase(1)
	b.clear()
	if !slices.Equal(again, kept) {
		t.Fatalf("an answer that was kept: %v, not %v", again, kept)
	}
}

// call is one of the calls that change a group.
type call struct {
	name string
	do   func(b *both)
}

func calls() []call {
	return []call{
		{"p0", func(b *both) { b.put(0, entryOf(0)) }},
		{"p3", func(b *both) { b.put(3, entryOf(12)) }},
		{"p7", func(b *both) { b.put(7, entryOf(23)) }},
		{"p8", func(b *both) { b.put(8, entryOf(4)) }},
		{"s0", func(b *both) { b.set(0, 5) }},
		{"s3", func(b *both) { b.set(3, 6) }},
		{"s-1", func(b *both) { b.set(-1, 6) }},
		{"e0", func(b *both) { b.erase(0) }},
		{"e3", func(b *both) { b.erase(3) }},
		{"e7", func(b *both) { b.erase(7) }},
		{"c", func(b *both) { b.clear() }},
	}
}

// P8.1: each order of so many calls out of all kinds, from a group without an entry on, from ones in which one slot or none is empty, and from one with deleted slots.
func TestEveryOrderOfFewCalls(t *testing.T) {
	const long = 3
	all := calls()
	orders := 1
	for range long {
		orders *= len(all)
	}
	for _, signs := range []string{"........", "#######.", ".##.###.", "########", "x#######", "x##x####"} {
		for order := range orders {
			b := makeGroup(t, signs, 1)
			for left, k := order, 0; k < long; k++ {
				next := all[left%len(all)]
				b.what += " " + next.name
				next.do(b)
				left /= len(all)
			}
		}
	}
}

// some gives numbers without a pattern.
func some() func(below int) int {
	x := uint64(88172645463325252)
	return func(below int) int {
		x ^= x << 13
		x ^= x >> 7
		x ^= x << 17
		return int(x >> 11 % uint64(below))
	}
}

// P8.1: long orders, of several groups in turns.
func TestLongOrders(t *testing.T) {
	next := some()
	all := []*both{newBoth(t, "first"), newBoth(t, "second"), newBoth(t, "third")}
	seen := map[string]bool{}
	for n := range 60000 {
		b := all[next(len(all))]
		i := next(lanes+2) - 1
		switch next(9) {
		case 0, 1, 2, 3:
			b.put(i, entryOf(next(1000)))
		case 4, 5:
			b.erase(i)
		case 6:
			b.set(i, uint64(n))
		case 7:
			b.put(b.v.Free(), entryOf(next(1000)))
		case 8:
			if next(20) == 0 {
				b.clear()
			}
		}
		seen[b.v.Text()] = true
	}
	if len(seen) < 300 {
		t.Fatalf("only %d kinds of groups were seen", len(seen))
	}
}

// P8.2: of all groups that aren't open, each two calls that aren't Clear, at all slots.
func TestAGroupThatIsntOpenStaysSo(t *testing.T) {
	type change func(v View)
	var changes []change
	for i := -1; i <= lanes; i++ {
		changes = append(changes,
			func(v View) { v.Put(i, entryOf(i+1)) },
			func(v View) { v.Set(i, 1) },
			func(v View) { v.Erase(i) },
			func(v View) {
				v.Find(1, 1)
				v.At(i)
				v.Free()
				v.Entries()
				v.Full()
				v.Deleted()
				v.Text()
			},
		)
	}
	for _, signs := range groups() {
		for first, one := range changes {
			b := makeGroup(t, signs, 2)
			if b.v.Open() {
				break
			}
			for second, two := range changes {
				one(b.v)
				two(b.v)
				if b.v.Open() || b.g.Look(meter.Lens{}).Open() {
					t.Fatalf("%s: open behind the changes %d and %d: %s", signs, first, second, b.v.Text())
				}
			}
			b.v.Clear()
			same(t, signs+", cleared", b.v.Open(), true)
		}
	}
}

// P8.2: asked of the answers alone: long orders in which every slot comes and goes, and a Clear now and then.
func TestOnlyClearOpens(t *testing.T) {
	next := some()
	v := New().Look(meter.Lens{})
	closed, opened, shut := 0, 0, 0
	for range 60000 {
		was, i := v.Open(), next(lanes)
		kind := next(40)
		switch {
		case kind == 0:
			v.Clear()
		case kind < 26:
			v.Put(i, entryOf(next(1000)))
		case kind < 36:
			if is, err := v.Erase(i); err == nil && is == v.Open() {
				t.Fatalf("erased: deleted is %v, open is %v", is, v.Open())
			}
		default:
			v.Set(i, 3)
		}
		is := v.Open()
		switch {
		case !was && is && kind != 0:
			t.Fatalf("open, though it was closed and not cleared: %s", v.Text())
		case !was && is:
			opened++
		case was && !is:
			shut++
		case !was:
			closed++
		}
	}
	if closed < 1000 || opened < 100 || shut < 100 {
		t.Fatalf("too little was seen: closed %d times, opened %d, shut %d", closed, opened, shut)
	}
}
