package copyist

import (
	"errors"
	"fmt"
	"math"
	"slices"
	"strconv"
	"strings"
	"testing"

	"ambler/api"
	"ambler/dir"
	"ambler/meter"
	"ambler/trap"
)

// The tests hold each call against a slow copyist: the old entries and the new ones as two plain lists, and how many are copied. Which entries are a hash's or a prefix's it tells by figures 0 and 1, the highest bit first: of those whose figures begin with its own.

const (
	greatest   = math.MaxUint64
	mostDepth  = 5
	hashLength = 64
)

// figures is a number that isn't below 0 as that many figures, or as more, if it has more; 0 of no figures is an empty text.
func figures(n uint64, many int) string {
	text := ""
	if n > 0 {
		text = strconv.FormatUint(n, 2)
	}
	return strings.Repeat("0", max(0, many-len(text))) + text
}

// hashOf is the hash that figures say.
func hashOf(text string) uint64 {
	if len(text) != hashLength {
		panic("a hash has 64 figures, not " + strconv.Itoa(len(text)))
	}
	hash, err := strconv.ParseUint(text, 2, 64)
	if err != nil {
		panic(err)
	}
	return hash
}

// namesOf is the figures of each entry of a depth.
func namesOf(depth int) []string {
	names := []string{""}
	for range depth {
		longer := []string{}
		for _, name := range names {
			longer = append(longer, name+"0", name+"1")
		}
		names = longer
	}
	return names
}

// find is the entry of a hash, of the list whose entries have these figures.
func find(names []string, ids []int, hash uint64) int {
	text := figures(hash, hashLength)
	for i, name := range names {
		if strings.HasPrefix(text, name) {
			return ids[i]
		}
	}
	panic("no entry of " + text)
}

type slow struct {
	depth  int
	names  []string // the figures of each old entry
	longer []string // and of each new one
	old    []int
	made   []int // what isn't copied yet isn't in it
	taken  bool
}

func newSlow(depth int, old []int) *slow {
	return &slow{depth: depth, names: namesOf(depth), longer: namesOf(depth + 1), old: old}
}

func (s *slow) copied() int { return len(s.made) / 2 }

func (s *slow) left() int { return len(s.old) - s.copied() }

func (s *slow) step() bool {
	if s.left() == 0 {
		return false
	}
	id := s.old[s.copied()]
	s.made = append(s.made, id, id)
	return true
}

func (s *slow) set(prefix, depth, id int) (int, error) {
	if prefix < 0 || depth < 0 || depth > s.depth || id < 0 {
		return 0, api.ErrRange
	}
	text := figures(uint64(prefix), depth)
	if len(text) != depth {
		return 0, api.ErrRange
	}
	many := 0
	for i, name := range s.names {
		if strings.HasPrefix(name, text) {
			s.old[i] = id
			many++
		}
	}
	for i := range s.made {
		if strings.HasPrefix(s.longer[i], text) {
			s.made[i] = id
			many++
		}
	}
	return many, nil
}

func (s *slow) at(hash uint64) int { return find(s.names, s.old, hash) }

func (s *slow) take() error {
	if s.left() > 0 || s.taken {
		return api.ErrState
	}
	s.taken = true
	return nil
}

// edges is the hashes of each new entry that are its least, its greatest, and some between these.
func edges(depth int) []uint64 {
	hashes := []uint64{}
	for _, name := range namesOf(depth + 1) {
		many := hashLength - len(name)
		for _, rest := range []string{"0", "1", "01", "0011"} {
			hashes = append(hashes, hashOf(name+strings.Repeat(rest, hashLength)[:many]))
		}
	}
	return hashes
}

// some gives numbers without a pattern.
func some() func() uint64 {
	x := uint64(88172645463325252)
	return func() uint64 {
		x ^= x << 13
		x ^= x >> 7
		x ^= x << 17
		return x
	}
}

// below gives numbers below 0.
func below() []int {
	return []int{-1, -2, -5, -31, -32, -33, -64, math.MinInt32, math.MinInt32 - 1, -1 << 62, math.MinInt + 1, math.MinInt}
}

// above gives numbers from one that is too great on, and some that wrap round to a small one when they are taken several times.
func above(first int) []int {
	return []int{first, first + 1, 2 * first, first + 63, first + 64, 1 << 16, math.MaxInt32, 1 << 32, 1<<32 + 1, 1 << 58, 1<<59 + 1, 1 << 62, math.MaxInt - 1, math.MaxInt}
}

func same[T comparable](t *testing.T, what string, got, want T) {
	t.Helper()
	if got != want {
		t.Fatalf("%s: %v, not %v", what, got, want)
	}
}

func sameList(t *testing.T, what string, got, want []int) {
	t.Helper()
	if !slices.Equal(got, want) {
		t.Fatalf("%s: %v, not %v", what, got, want)
	}
}

// sameError asks by ==, not by errors.Is alone: the promise is that error, not one around it.
func sameError(t *testing.T, what string, got, want error) {
	t.Helper()
	if got == nil || want == nil {
		if got != nil || want != nil {
			t.Fatalf("%s: %v, not %v", what, got, want)
		}
		return
	}
	if got != want || !errors.Is(got, want) {
		t.Fatalf("%s: %v, not %v", what, got, want)
	}
}

// makeDir is a directory of which each entry has a number that no other one has.
func makeDir(t *testing.T, depth int) *dir.Dir {
	t.Helper()
	d, err := dir.New(depth)
	sameError(t, "a directory", err, nil)
	for i := range d.Len() {
		sameError(t, "its entry", d.Put(i, 100+i), nil)
	}
	return d
}

func makeNew(t *testing.T, d *dir.Dir) *Copyist {
	t.Helper()
	c, err := New(d)
	sameError(t, "New", err, nil)
	if c == nil {
		t.Fatal("New: no copyist")
	}
	return c
}

// both is a copyist and a slow one, of which each is asked what the other is, with two meters that are counted for in turns.
type both struct {
	t      *testing.T
	d      *dir.Dir
	c      *Copyist
	s      *slow
	m      [2]*meter.Meter
	turn   int
	units  int // of both meters together
	made   *dir.Dir
	hashes []uint64
	done   []string
}

func newBoth(t *testing.T, depth int) *both {
	t.Helper()
	return newBothOf(t, depth, edges(depth))
}

// newBothOf takes the hashes that are asked, which are told once for many of them.
func newBothOf(t *testing.T, depth int, hashes []uint64) *both {
	d := makeDir(t, depth)
	return &both{t: t, d: d, c: makeNew(t, d), s: newSlow(depth, d.List()), m: [2]*meter.Meter{{}, {}}, hashes: hashes}
}

func (b *both) say(what string, numbers ...int) {
	b.done = append(b.done, what+fmt.Sprint(numbers))
}

func (b *both) what(name string) string {
	return fmt.Sprintf("depth %d, %s behind %v", b.s.depth, name, b.done)
}

func (b *both) step() {
	b.turn = 1 - b.turn
	m, other := b.m[b.turn], b.m[1-b.turn].All()
	m.Reset()
	is, want := b.s.step(), meter.Counts{}
	if is {
		want.Units = 1
		b.units++
	}
	if got := b.c.Step(m); got != is {
		b.t.Fatalf("%s: %v", b.what("Step"), got)
	}
	if m.Last() != want || b.m[1-b.turn].All() != other {
		b.t.Fatalf("%s: %v, not %v", b.what("what a Step counts"), m.Last(), want)
	}
	b.say("step")
}

func (b *both) steps(many int) {
	for range many {
		b.step()
	}
}

func (b *both) left() {
	if got := b.c.Left(); got != b.s.left() {
		b.t.Fatalf("%s: %d, not %d", b.what("Left"), got, b.s.left())
	}
}

func (b *both) set(prefix, depth, id int) {
	got, err := b.c.Set(prefix, depth, id)
	want, wantErr := b.s.set(prefix, depth, id)
	b.say("set", prefix, depth, id)
	if got != want || err != wantErr {
		b.t.Fatalf("%s: %d, %v, not %d, %v", b.what("the answer"), got, err, want, wantErr)
	}
}

func (b *both) at(hash uint64) {
	if got, want := b.c.At(hash), b.s.at(hash); got != want {
		b.t.Fatalf("%s: of %#x %d, not %d", b.what("At"), hash, got, want)
	}
}

func (b *both) take() {
	x, err := b.c.Take()
	want := b.s.take()
	b.say("take")
	if err != want || (x == nil) != (want != nil) {
		b.t.Fatalf("%s: %v, %v, not %v", b.what("the answer"), x, err, want)
	}
	if x != nil {
		b.made = x
	}
}

// hold asks all that doesn't change a copyist, twice, so that what asking would change is seen, too, and what its directories are.
func (b *both) hold() {
	b.t.Helper()
	for range 2 {
		b.left()
		for _, hash := range b.hashes {
			b.at(hash)
		}
	}
	sameList(b.t, b.what("the old one"), b.d.List(), b.s.old)
	same(b.t, b.what("its depth"), b.d.Depth(), b.s.depth)
	same(b.t, b.what("all counts"), b.m[0].All().Plus(b.m[1].All()), meter.Counts{Units: b.units})
	if b.made != nil {
		sameList(b.t, b.what("the new one"), b.made.List(), b.s.made)
		same(b.t, b.what("its depth"), b.made.Depth(), b.s.depth+1)
		b.holdEqual()
	}
}

// holdEqual is P17.2.
func (b *both) holdEqual() {
	b.t.Helper()
	for _, hash := range b.hashes {
		if got, want := b.made.At(hash), b.d.At(hash); got != want || got != b.c.At(hash) {
			b.t.Fatalf("%s: of %#x %d, and the old one's is %d", b.what("the new one's entry"), hash, got, want)
		}
	}
}

// end copies what is left, and takes the new directory.
func (b *both) end() {
	b.t.Helper()
	b.steps(b.s.left())
	b.take()
	if b.made == nil {
		b.t.Fatal(b.what("no new directory"))
	}
	b.hold()
}

// P17.1
func TestTheExample(t *testing.T) {
	d, err := dir.New(1)
	sameError(t, "a directory", err, nil)
	sameError(t, "an entry", d.Put(0, 3), nil)
	sameError(t, "an entry", d.Put(1, 4), nil)
	c, m := makeNew(t, d), &meter.Meter{}
	same(t, "Step", c.Step(m), true)
	same(t, "Step", c.Step(m), true)
	x, err := c.Take()
	sameError(t, "Take", err, nil)
	sameList(t, "the new one", x.List(), []int{3, 3, 4, 4})
	same(t, "its depth", x.Depth(), 2)
}

// P17.1
func TestNewOfNoDirectory(t *testing.T) {
	c, err := New(nil)
	sameError(t, "New", err, api.ErrNone)
	same(t, "the copyist", c, nil)
}

// P17.1: the directory that is handed in is as it was, and a new copyist has copied nothing.
func TestNewOfEachDepth(t *testing.T) {
	for depth, many := range []int{1, 2, 4, 8, 16} {
		d := makeDir(t, depth)
		list := d.List()
		c := makeNew(t, d)
		same(t, "Left", c.Left(), many)
		x, err := c.Take()
		sameError(t, "Take", err, api.ErrState)
		same(t, "the new directory", x, nil)
		sameList(t, "the old one", d.List(), list)
		n, err := c.Set(0, 0, 1)
		sameError(t, "Set", err, nil)
		same(t, "how many are set, as long as nothing is copied", n, many)
		newBoth(t, depth).hold()
	}
}

// P17.1
func TestNewOfMaxDepth(t *testing.T) {
	same(t, "MaxDepth", api.MaxDepth, mostDepth)
	d := makeDir(t, mostDepth)
	list := d.List()
	c, err := New(d)
	sameError(t, "New", err, api.ErrRange)
	same(t, "the copyist", c, nil)
	sameList(t, "the directory", d.List(), list)
	same(t, "its depth", d.Depth(), mostDepth)
}

// P17.1: from a directory of depth 0 on, what a copyist answers is doubled again, up to MaxDepth.
func TestDoubledAgainAndAgain(t *testing.T) {
	d, m := makeDir(t, 0), &meter.Meter{}
	for depth := range mostDepth {
		c := makeNew(t, d)
		for c.Step(m) {
		}
		_, err := c.Set(1<<depth-1, depth, depth)
		sameError(t, "Set", err, nil)
		d, err = c.Take()
		sameError(t, "Take", err, nil)
		same(t, "its depth", d.Depth(), depth+1)
	}
	same(t, "units", m.All(), meter.Counts{Units: 1 + 2 + 4 + 8 + 16})
	want := slices.Concat(slices.Repeat([]int{0}, 16), slices.Repeat([]int{1}, 8), slices.Repeat([]int{2}, 4), []int{3, 3, 4, 4})
	sameList(t, "the last one", d.List(), want)
	_, err := New(d)
	sameError(t, "New", err, api.ErrRange)
}

// P17.1: Left ahead of the first Step, behind each, and behind the last one; a Take that is refused ahead of each; and then once more a Step, a Take, and each again.
func TestStepByStep(t *testing.T) {
	for depth, many := range []int{1, 2, 4, 8, 16} {
		b := newBoth(t, depth)
		b.hold()
		for n := range many {
			b.take()
			same(t, "Left", b.c.Left(), many-n)
			b.step()
			same(t, "Left", b.c.Left(), many-n-1)
			b.hold()
		}
		for range 3 {
			b.step()
			b.hold()
		}
		same(t, "units", b.m[0].All().Plus(b.m[1].All()), meter.Counts{Units: many})
		b.take()
		same(t, "whether it was taken", b.made != nil, true)
		same(t, "the depth of the new one", b.made.Depth(), depth+1)
		same(t, "its length", b.made.Len(), 2*many)
		for range 3 {
			b.hold()
			b.step()
			b.take()
		}
		same(t, "Left behind Take", b.c.Left(), 0)
		for i, id := range b.made.List() {
			same(t, "entry "+strconv.Itoa(i)+" of the new one", id, 100+i/2)
		}
	}
}

// P17.1: ahead of the first Step, with each number of entries left, and when all are copied, then once more. What is refused takes nothing away.
func TestTakeWithSoManyLeft(t *testing.T) {
	for depth := range mostDepth {
		for steps := range 1<<depth + 1 {
			b := newBoth(t, depth)
			b.steps(steps)
			for n := range 3 {
				x, err := b.c.Take()
				if steps == 1<<depth && n == 0 {
					sameError(t, "Take", err, nil)
					same(t, "whether there is a directory", x != nil, true)
					b.made, b.s.taken = x, true
				} else {
					sameError(t, "Take", err, api.ErrState)
					same(t, "the directory", x, nil)
				}
				b.hold()
			}
			if b.made == nil {
				b.end()
			}
		}
	}
}

// P17.1: a directory of depth 2, of which so many entries are copied.
func TestHowManyAreSetOfFewPrefixes(t *testing.T) {
	for _, c := range []struct {
		prefix, depth int
		want          [5]int // with none copied, one, and so on up to all
	}{
		{0, 0, [5]int{4, 6, 8, 10, 12}},
		{0, 1, [5]int{2, 4, 6, 6, 6}},
		{1, 1, [5]int{2, 2, 2, 4, 6}},
		{0, 2, [5]int{1, 3, 3, 3, 3}},
		{1, 2, [5]int{1, 1, 3, 3, 3}},
		{2, 2, [5]int{1, 1, 1, 3, 3}},
		{3, 2, [5]int{1, 1, 1, 1, 3}},
	} {
		for copied, want := range c.want {
			b := newBoth(t, 2)
			b.steps(copied)
			for _, id := range []int{7, 7, 0, math.MaxInt} {
				n, err := b.c.Set(c.prefix, c.depth, id)
				what := fmt.Sprintf("Set of %d of depth %d with %d copied", c.prefix, c.depth, copied)
				sameError(t, what, err, nil)
				same(t, what, n, want)
			}
		}
	}
}

// P17.1: each prefix of each depth, with each number of entries copied, and behind Take. P17.2, too.
func TestSetOfEachPrefixAtEachTime(t *testing.T) {
	for global := range mostDepth {
		hashes := edges(global)
		for depth := range global + 1 {
			for prefix := range 1 << depth {
				for copied := range 1<<global + 1 {
					b := newBothOf(t, global, hashes)
					b.steps(copied)
					b.set(prefix, depth, 9)
					b.hold()
					b.set(prefix, depth, 9)
					b.end()
					b.set(prefix, depth, 10)
					b.hold()
				}
			}
		}
	}
}

// noPrefixes gives what is no prefix of a directory of a depth, as prefix and depth: depths that it hasn't, among them the new one's, with prefixes that layer 3 knows and others, and prefixes that aren't of their depth.
func noPrefixes(global int) [][2]int {
	list := [][2]int{}
	for _, depth := range append(below(), above(global+1)...) {
		for _, prefix := range []int{0, 1, 31, 32, -1, math.MaxInt, math.MinInt} {
			list = append(list, [2]int{prefix, depth})
		}
	}
	for depth := global + 1; depth <= 17; depth++ {
		list = append(list, [2]int{0, depth}, [2]int{1, depth}, [2]int{1<<depth - 1, depth}, [2]int{1 << depth, depth})
	}
	for depth := range global + 1 {
		for _, prefix := range append(below(), above(1<<depth)...) {
			list = append(list, [2]int{prefix, depth})
		}
	}
	return list
}

// P17.1: each error of the old directory's Set, with each number of entries copied; what fails changes nothing.
func TestSetOfWhatThereIsnt(t *testing.T) {
	for global := range mostDepth {
		for copied := range 1<<global + 2 {
			b := newBoth(t, global)
			b.steps(copied)
			if copied > 1<<global {
				b.take()
			}
			refuse := func(prefix, depth, id int) {
				n, err := b.c.Set(prefix, depth, id)
				what := fmt.Sprintf("Set of %d of depth %d in depth %d to %d", prefix, depth, global, id)
				sameError(t, what, err, api.ErrRange)
				same(t, what, n, 0)
				sameList(t, "the old one behind "+what, b.d.List(), b.s.old)
			}
			for _, p := range noPrefixes(global) {
				for _, id := range []int{0, math.MaxInt, -1} {
					refuse(p[0], p[1], id)
				}
			}
			for depth := range global + 1 {
				for prefix := range 1 << depth {
					for _, id := range below() {
						refuse(prefix, depth, id)
					}
				}
			}
			b.hold()
			if b.made == nil {
				b.end()
			}
		}
	}
}

// P17.1: the old one's entry, of hashes of each one, ahead of the first Step, behind each one, and behind each Set, of an entry that is copied and of one that isn't.
func TestAtOfEachEntry(t *testing.T) {
	next := some()
	for depth := range mostDepth {
		b := newBoth(t, depth)
		for range 100 {
			b.hashes = append(b.hashes, next())
		}
		each := func() {
			b.hold()
			for i, name := range b.s.names {
				for _, rest := range []string{"0", "1"} {
					hash := hashOf(name + strings.Repeat(rest, hashLength-depth))
					same(t, fmt.Sprintf("At of %#x", hash), b.c.At(hash), b.s.old[i])
				}
			}
		}
		each()
		for i := range 1 << depth {
			b.set(i, depth, 200+i)
			each()
			b.step()
			each()
			b.set(i, depth, 300+i)
			each()
		}
		b.end()
		each()
		b.set(0, depth, 4)
		each()
	}
}

// P17.1
func TestAtOfFewHashes(t *testing.T) {
	c, m := makeNew(t, makeDir(t, 2)), &meter.Meter{}
	for {
		for _, each := range []struct {
			hash uint64
			want int
		}{
			{0, 100},
			{0x3FFFFFFFFFFFFFFF, 100},
			{0x4000000000000000, 101},
			{0x7FFFFFFFFFFFFFFF, 101},
			{0x8000000000000000, 102},
			{0xBFFFFFFFFFFFFFFF, 102},
			{0xC000000000000000, 103},
			{greatest, 103},
		} {
			same(t, fmt.Sprintf("At of %#x", each.hash), c.At(each.hash), each.want)
		}
		if !c.Step(m) {
			break
		}
	}
}

// P17.1: a meter may have counted before, and counts on behind a Step; it isn't reset. Only Step counts.
func TestAMeterThatHasCounted(t *testing.T) {
	c, m := makeNew(t, makeDir(t, 2)), &meter.Meter{}
	m.Unit(5)
	m.Probing().Visit()
	m.Working().Visit()
	same(t, "Step", c.Step(m), true)
	same(t, "last", m.Last(), meter.Counts{Probes: 1, Visits: 1, Units: 6})
	m.Reset()
	same(t, "Step", c.Step(m), true)
	same(t, "last", m.Last(), meter.Counts{Units: 1})
	_, err := c.Set(0, 0, 1)
	sameError(t, "Set", err, nil)
	same(t, "Step", c.Step(m), true)
	same(t, "Step", c.Step(m), true)
	same(t, "Step", c.Step(m), false)
	_, err = c.Take()
	sameError(t, "Take", err, nil)
	same(t, "Step", c.Step(m), false)
	same(t, "last", m.Last(), meter.Counts{Units: 3})
	same(t, "all", m.All(), meter.Counts{Probes: 1, Visits: 1, Units: 9})
}

// P17.1: a Step that would pass the meter's limit raises ErrLimit, as layer 6 tells of it, and does nothing; the Steps go on when the limit lets them. Where no entry is left, nothing is counted, so that nothing is raised; and Set counts for no meter.
func TestAMeterWithALimit(t *testing.T) {
	for depth := range mostDepth {
		for limit := range 1 << depth {
			b, m := newBoth(t, depth), &meter.Meter{}
			m.Limit(limit)
			for range limit {
				b.s.step()
				same(t, "Step", b.c.Step(m), true)
			}
			for n := range 2 {
				sameError(t, "Step", trap.Catch(func() { b.c.Step(m) }), api.ErrLimit)
				same(t, "counted", m.All(), meter.Counts{Units: limit})
				b.hold()
				b.set(limit, depth, 7+n)
				b.set(0, 0, 5+n)
				b.take()
				b.hold()
			}
			m.Limit(1 << depth)
			b.s.step()
			same(t, "Step", b.c.Step(m), true)
			b.set(limit, depth, 9)
			for b.s.step() {
				same(t, "Step", b.c.Step(m), true)
			}
			sameError(t, "Step", trap.Catch(func() { same(t, "Step", b.c.Step(m), false) }), nil)
			same(t, "counted", m.All(), meter.Counts{Units: 1 << depth})
			b.end()
		}
	}
}

// P17.1: copyists of several directories, used in turns, have each its own directories.
func TestSeveralCopyists(t *testing.T) {
	for depth := range mostDepth {
		x, y := newBoth(t, depth), newBoth(t, depth)
		for i := range 1 << depth {
			x.step()
			y.hold()
			x.set(i, depth, 3)
			y.hold()
			y.set(0, 0, 4+i)
			x.hold()
			y.step()
			x.hold()
		}
		x.end()
		y.hold()
		y.end()
		x.set(0, 0, 5)
		y.hold()
		if x.made == y.made {
			t.Fatal("two copyists have one new directory")
		}
	}
}

// P17.1: the old directory and the new one stand apart: what is put in one of them itself isn't in the other one.
func TestTheNewDirectoryStandsApart(t *testing.T) {
	for depth := range mostDepth {
		b := newBoth(t, depth)
		b.steps(1 << depth)
		b.take()
		old := b.d.List()
		for i := range b.made.Len() {
			sameError(t, "Put", b.made.Put(i, 50+i), nil)
		}
		sameList(t, "the old one", b.d.List(), old)
		for i, name := range b.s.names {
			same(t, "At", b.c.At(hashOf(name+strings.Repeat("1", hashLength-depth))), old[i])
		}
		list := b.made.List()
		sameError(t, "Put", b.d.Put(0, 1), nil)
		sameList(t, "the new one", b.made.List(), list)
	}
}

// P17.1: all orders of few calls, of each call with right numbers and with wrong ones, with each number of entries copied ahead of them.
func TestAllShortOrders(t *testing.T) {
	const calls = 4
	for depth := range 4 {
		last, hashes := 1<<depth-1, edges(depth)
		acts := []func(b *both){
			func(b *both) { b.step() },
			func(b *both) { b.steps(b.s.left()); b.left() },
			func(b *both) { b.take() },
			func(b *both) { b.set(0, 0, 1) },
			func(b *both) { b.set(b.s.copied()&last, depth, 2) },
			func(b *both) { b.set(last, depth, 3); b.at(greatest) },
			func(b *both) { b.set(0, (depth+1)/2, 4); b.at(0) },
			func(b *both) { b.set(0, depth, -1); b.set(last+1, depth, 5); b.set(0, depth+1, 5) },
		}
		orders := 1
		for range calls {
			orders *= len(acts)
		}
		for order := range orders {
			// Which number of entries is copied goes round, where all of them would take too long.
			for copied := order % (depth + 1); copied <= last+1; copied += depth + 1 {
				b, n := newBothOf(t, depth, hashes), order
				b.steps(copied)
				for range calls {
					acts[n%len(acts)](b)
					n /= len(acts)
				}
				b.hold()
			}
		}
	}
}

// P17.1: long orders of all calls, of each depth, with numbers that are mostly right.
func TestLongOrders(t *testing.T) {
	next := some()
	pick := func(count int) int { return int(next() >> 11 % uint64(count)) }
	takes := 0
	for depth := range mostDepth {
		hashes := edges(depth)
		for range 200 {
			b := newBothOf(t, depth, hashes)
			for range 20 + 3<<depth {
				of := pick(depth+3) - 1
				prefix := pick(1<<max(of, 0)+2) - 1
				switch pick(8) {
				case 0, 1, 2:
					b.step()
				case 3, 4:
					b.set(prefix, of, pick(12)-1)
				case 5:
					b.at(next())
				case 6:
					b.left()
				case 7:
					b.take()
				}
			}
			b.hold()
			if b.made != nil {
				takes++
			}
		}
	}
	if takes < 500 || takes > 990 {
		t.Fatalf("too little was seen: %d of 1000 taken", takes)
	}
}

// P17.2: each entry is set ahead of its Step, or behind it, or both, or never, in all ways at once; and each hash's entry of the new one is the old one's, and the one that was set last.
func TestSetAheadAndBehind(t *testing.T) {
	next := some()
	for depth := range mostDepth {
		hashes := edges(depth)
		for range 30 {
			hashes = append(hashes, next())
		}
		ways := 1 << (2 << depth)
		if depth > 2 {
			ways = 600
		}
		for n := range ways {
			way := uint64(n)
			if depth > 2 {
				way = next()
			}
			b, want := newBothOf(t, depth, hashes), []int{}
			for i := range 1 << depth {
				id := 100 + i
				if way>>(2*i)&1 == 1 {
					id = 200 + i
					b.set(i, depth, id)
				}
				b.step()
				if way>>(2*i+1)&1 == 1 {
					id = 300 + i
					b.set(i, depth, id)
				}
				want = append(want, id, id)
			}
			b.end()
			sameList(t, b.what("the new one"), b.made.List(), want)
		}
	}
}

// P17.2: one prefix that is set at one time, and another one, or the same, at a later time.
func TestTwoPrefixesAtTwoTimes(t *testing.T) {
	for global := range 4 {
		hashes, prefixes := edges(global), [][2]int{}
		for depth := range global + 1 {
			for prefix := range 1 << depth {
				prefixes = append(prefixes, [2]int{prefix, depth})
			}
		}
		for _, p := range prefixes {
			for _, q := range prefixes {
				for first := range 1<<global + 1 {
					for second := first; second <= 1<<global; second++ {
						b := newBothOf(t, global, hashes)
						b.steps(first)
						b.set(p[0], p[1], 1)
						b.steps(second - first)
						b.set(q[0], q[1], 2)
						b.end()
					}
				}
			}
		}
	}
}

// P17.2: also behind Take what is set is set in both.
func TestSetBehindTake(t *testing.T) {
	for depth := range mostDepth {
		b := newBoth(t, depth)
		b.set(0, depth, 1)
		b.end()
		for of := range depth + 1 {
			for prefix := range 1 << of {
				b.set(prefix, of, 10+prefix)
				b.holdEqual()
				b.hold()
			}
		}
		n, err := b.c.Set(0, 0, 6)
		sameError(t, "Set", err, nil)
		same(t, "how many are set", n, 3<<depth)
		sameList(t, "the old one", b.d.List(), slices.Repeat([]int{6}, 1<<depth))
		sameList(t, "the new one", b.made.List(), slices.Repeat([]int{6}, 2<<depth))
	}
}
