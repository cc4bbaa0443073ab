package dir

import (
	"errors"
	"fmt"
	"math"
	"slices"
	"strconv"
	"strings"
	"testing"

	"ambler/api"
)

// The tests hold each call against a slow directory: a plain list of numbers, one for each entry. Which hashes are an entry's, and which entries are a prefix's, it tells by figures 0 and 1, the highest bit first: of those whose figures begin with its own.

const (
	greatest   = math.MaxUint64
	mostDepth  = 5
	hashLength = 64
)

// figures is a number that isn't below 0 as that many figures, or as more, if it has more; 0 of no figures is an empty text.
func figures(n uint64, many int) string {
	text := ""
	if n > 0 {
		text = strconv.FormatUint(n, 2)
	}
	return strings.Repeat("0", max(0, many-len(text))) + text
}

// hashOf is the hash that figures say.
func hashOf(text string) uint64 {
	if len(text) != hashLength {
		panic("a hash has 64 figures, not " + strconv.Itoa(len(text)))
	}
	hash, err := strconv.ParseUint(text, 2, 64)
	if err != nil {
		panic(err)
	}
	return hash
}

type slow struct {
	depth int
	names []string // the figures of each entry
	ids   []int
}

func newSlow(depth int) *slow {
	s := &slow{depth: depth, names: []string{""}}
	for range depth {
		longer := []string{}
		for _, name := range s.names {
			longer = append(longer, name+"0", name+"1")
		}
		s.names = longer
	}
	s.ids = make([]int, len(s.names))
	return s
}

func (s *slow) at(hash uint64) int {
	text := figures(hash, hashLength)
	for i, name := range s.names {
		if strings.HasPrefix(text, name) {
			return s.ids[i]
		}
	}
	panic("no entry of " + text)
}

func (s *slow) entry(i int) (int, error) {
	for n, id := range s.ids {
		if n == i {
			return id, nil
		}
	}
	return 0, api.ErrRange
}

func (s *slow) put(i, id int) error {
	for n := range s.ids {
		if n == i && id >= 0 {
			s.ids[n] = id
			return nil
		}
	}
	return api.ErrRange
}

// of is the entries of a prefix; none, if there is no such prefix.
func (s *slow) of(prefix, depth int) []int {
	if prefix < 0 || depth < 0 || depth > s.depth {
		return nil
	}
	text := figures(uint64(prefix), depth)
	if len(text) != depth {
		return nil
	}
	list := []int{}
	for i, name := range s.names {
		if strings.HasPrefix(name, text) {
			list = append(list, i)
		}
	}
	return list
}

func (s *slow) set(prefix, depth, id int) (int, error) {
	list := s.of(prefix, depth)
	if len(list) == 0 || id < 0 {
		return 0, api.ErrRange
	}
	for _, i := range list {
		s.ids[i] = id
	}
	return len(list), nil
}

func (s *slow) span(prefix, depth int) (from, to int, err error) {
	list := s.of(prefix, depth)
	if len(list) == 0 {
		return 0, 0, api.ErrRange
	}
	for n, i := range list {
		if i != list[0]+n {
			panic("the entries of a prefix have a gap")
		}
	}
	return list[0], list[0] + len(list), nil
}

// edges is the hashes of each entry that are its least, its greatest, and some between these.
func (s *slow) edges() []uint64 {
	hashes := []uint64{}
	for _, name := range s.names {
		many := hashLength - len(name)
		for _, rest := range []string{"0", "1", "01", "10", "0011"} {
			tail := strings.Repeat(rest, hashLength)[:many]
			hashes = append(hashes, hashOf(name+tail))
		}
		zeros, ones := strings.Repeat("0", many-1), strings.Repeat("1", many-1)
		hashes = append(hashes, hashOf(name+zeros+"1"), hashOf(name+ones+"0"), hashOf(name+"1"+zeros), hashOf(name+"0"+ones))
	}
	return hashes
}

// some gives numbers without a pattern.
func some() func() uint64 {
	x := uint64(88172645463325252)
	return func() uint64 {
		x ^= x << 13
		x ^= x >> 7
		x ^= x << 17
		return x
	}
}

func same[T comparable](t *testing.T, what string, got, want T) {
	t.Helper()
	if got != want {
		t.Fatalf("%s: %v, not %v", what, got, want)
	}
}

func sameList(t *testing.T, what string, got, want []int) {
	t.Helper()
	if !slices.Equal(got, want) {
		t.Fatalf("%s: %v, not %v", what, got, want)
	}
}

// sameError asks by ==, not by errors.Is alone: the promise is that error, not one around it.
func sameError(t *testing.T, what string, got, want error) {
	t.Helper()
	if got == nil || want == nil {
		if got != nil || want != nil {
			t.Fatalf("%s: %v, not %v", what, got, want)
		}
		return
	}
	if got != want || !errors.Is(got, want) {
		t.Fatalf("%s: %v, not %v", what, got, want)
	}
}

func makeNew(t *testing.T, depth int) *Dir {
	t.Helper()
	d, err := New(depth)
	sameError(t, "New of "+strconv.Itoa(depth), err, nil)
	if d == nil {
		t.Fatalf("New of %d: no directory", depth)
	}
	return d
}

// both is a directory and a slow one, of which each is asked what the other is.
type both struct {
	t      *testing.T
	d      *Dir
	s      *slow
	hashes []uint64
	done   []string
	lists  [][]int // that List answered
	wants  [][]int // what each of these was then
}

func newBoth(t *testing.T, depth int) *both {
	t.Helper()
	s := newSlow(depth)
	return &both{t: t, d: makeNew(t, depth), s: s, hashes: s.edges()}
}

// again begins anew, with what was made for it once.
func (b *both) again() *both {
	b.t.Helper()
	s := *b.s
	s.ids = make([]int, len(s.ids))
	return &both{t: b.t, d: makeNew(b.t, s.depth), s: &s, hashes: b.hashes}
}

func (b *both) say(what string, numbers ...int) {
	b.done = append(b.done, what+fmt.Sprint(numbers))
}

func (b *both) what(name string) string {
	return fmt.Sprintf("depth %d, %s behind %v", b.s.depth, name, b.done)
}

func (b *both) depth() {
	if got := b.d.Depth(); got != b.s.depth {
		b.t.Fatalf("%s: %d", b.what("Depth"), got)
	}
}

func (b *both) len() {
	if got := b.d.Len(); got != len(b.s.ids) {
		b.t.Fatalf("%s: %d, not %d", b.what("Len"), got, len(b.s.ids))
	}
}

func (b *both) at(hash uint64) {
	if got, want := b.d.At(hash), b.s.at(hash); got != want {
		b.t.Fatalf("%s: of %#x %d, not %d", b.what("At"), hash, got, want)
	}
}

func (b *both) entry(i int) {
	got, err := b.d.Entry(i)
	want, wantErr := b.s.entry(i)
	if got != want || err != wantErr {
		b.t.Fatalf("%s: of %d %d, %v, not %d, %v", b.what("Entry"), i, got, err, want, wantErr)
	}
}

func (b *both) span(prefix, depth int) {
	from, to, err := b.d.Span(prefix, depth)
	wantFrom, wantTo, wantErr := b.s.span(prefix, depth)
	if from != wantFrom || to != wantTo || err != wantErr {
		b.t.Fatalf("%s: of %d of depth %d %d, %d, %v, not %d, %d, %v", b.what("Span"), prefix, depth, from, to, err, wantFrom, wantTo, wantErr)
	}
}

func (b *both) put(i, id int) {
	b.say("Put", i, id)
	err, want := b.d.Put(i, id), b.s.put(i, id)
	if err != want {
		b.t.Fatalf("%s: %v, not %v", b.what("the error"), err, want)
	}
}

func (b *both) set(prefix, depth, id int) {
	b.say("Set", prefix, depth, id)
	got, err := b.d.Set(prefix, depth, id)
	want, wantErr := b.s.set(prefix, depth, id)
	if got != want || err != wantErr {
		b.t.Fatalf("%s: %d, %v, not %d, %v", b.what("the answer"), got, err, want, wantErr)
	}
}

// list keeps what it is answered, so that a later act that changes it is seen.
func (b *both) list() {
	b.t.Helper()
	got := b.d.List()
	if !slices.Equal(got, b.s.ids) {
		b.t.Fatalf("%s: %v, not %v", b.what("List"), got, b.s.ids)
	}
	b.lists = append(b.lists, got)
	b.wants = append(b.wants, slices.Clone(b.s.ids))
}

// spoil writes over what List answers, and behind it, too.
func (b *both) spoil() {
	b.t.Helper()
	b.say("spoil")
	got := b.d.List()
	if !slices.Equal(got, b.s.ids) {
		b.t.Fatalf("%s: %v, not %v", b.what("List"), got, b.s.ids)
	}
	got = got[:cap(got)]
	for i := range got {
		got[i] = -7 - i
	}
}

// hold asks all that doesn't change a directory, twice, so that what asking would change is seen, too.
func (b *both) hold() {
	b.t.Helper()
	for range 2 {
		b.depth()
		b.len()
		for _, hash := range b.hashes {
			b.at(hash)
		}
		for i := -2; i < len(b.s.ids)+3; i++ {
			b.entry(i)
		}
		for depth := -1; depth <= b.s.depth+1; depth++ {
			for prefix := -1; prefix <= 1<<max(depth, 0); prefix++ {
				b.span(prefix, depth)
			}
		}
		if got := b.d.List(); !slices.Equal(got, b.s.ids) {
			b.t.Fatalf("%s: %v, not %v", b.what("List"), got, b.s.ids)
		}
	}
	for n, list := range b.lists {
		if !slices.Equal(list, b.wants[n]) {
			b.t.Fatalf("%s: %v, not %v any more", b.what("list "+strconv.Itoa(n)), list, b.wants[n])
		}
	}
}

// mark gives each entry a number that no other one has.
func (b *both) mark() {
	b.t.Helper()
	for i := range b.s.ids {
		b.put(i, 100+i)
	}
}

// below gives numbers below 0.
func below() []int {
	return []int{-1, -2, -5, -31, -32, -33, -64, math.MinInt32, math.MinInt32 - 1, -1 << 62, math.MinInt + 1, math.MinInt}
}

// above gives numbers from one that is too great on, and some that wrap round to a small one when they are taken several times.
func above(first int) []int {
	return []int{first, first + 1, 2 * first, first + 63, first + 64, 1 << 16, math.MaxInt32, 1 << 32, 1<<32 + 1, 1 << 58, 1<<59 + 1, 1 << 62, math.MaxInt - 1, math.MaxInt}
}

// P16.1
func TestTheExample(t *testing.T) {
	d := makeNew(t, 2)
	n, err := d.Set(1, 1, 7)
	sameError(t, "Set", err, nil)
	same(t, "how many", n, 2)
	sameList(t, "List", d.List(), []int{0, 0, 7, 7})
}

// P16.1
func TestNewOfEachDepth(t *testing.T) {
	for depth, want := range []int{1, 2, 4, 8, 16, 32} {
		d := makeNew(t, depth)
		same(t, "Depth", d.Depth(), depth)
		same(t, "Len", d.Len(), want)
		sameList(t, "List", d.List(), make([]int, want))
		for i := range want {
			id, err := d.Entry(i)
			sameError(t, "Entry", err, nil)
			same(t, "Entry", id, 0)
		}
		newBoth(t, depth).hold()
	}
	same(t, "MaxDepth", api.MaxDepth, mostDepth)
}

// P16.1
func TestNewOfNoDepth(t *testing.T) {
	depths := append(below(), above(mostDepth+1)...)
	for n := 1; n <= 300; n++ {
		depths = append(depths, -n, mostDepth+n)
	}
	for _, depth := range depths {
		d, err := New(depth)
		sameError(t, "New of "+strconv.Itoa(depth), err, api.ErrRange)
		same(t, "the directory of depth "+strconv.Itoa(depth), d, nil)
	}
}

// P16.1
func TestAtOfFewHashes(t *testing.T) {
	for _, c := range []struct {
		depth int
		hash  uint64
		entry int
	}{
		{0, 0, 0},
		{0, 1 << 63, 0},
		{0, greatest, 0},
		{1, 0, 0},
		{1, 1<<63 - 1, 0},
		{1, 1 << 63, 1},
		{1, greatest, 1},
		{2, 0x3FFFFFFFFFFFFFFF, 0},
		{2, 0x4000000000000000, 1},
		{2, 0x7FFFFFFFFFFFFFFF, 1},
		{2, 0x8000000000000000, 2},
		{2, 0xC000000000000000, 3},
		{5, 0, 0},
		{5, 0x07FFFFFFFFFFFFFF, 0},
		{5, 0x0800000000000000, 1},
		{5, 0x7FFFFFFFFFFFFFFF, 15},
		{5, 0x8000000000000000, 16},
		{5, 0xF7FFFFFFFFFFFFFF, 30},
		{5, 0xF800000000000000, 31},
		{5, greatest, 31},
	} {
		b := newBoth(t, c.depth)
		b.mark()
		same(t, fmt.Sprintf("At of %#x, depth %d", c.hash, c.depth), b.d.At(c.hash), 100+c.entry)
	}
}

// P16.1: hashes of each entry, with each single bit behind it, and hashes without a pattern.
func TestAtOfEachEntry(t *testing.T) {
	for depth := range mostDepth + 1 {
		b := newBoth(t, depth)
		b.mark()
		for i, name := range b.s.names {
			zeros := strings.Repeat("0", hashLength-depth)
			for at := range zeros {
				hash := hashOf(name + zeros[:at] + "1" + zeros[at+1:])
				same(t, fmt.Sprintf("At of %#x, depth %d", hash, depth), b.d.At(hash), 100+i)
			}
		}
		next, seen := some(), map[int]bool{}
		for range 2000 {
			hash := next()
			b.at(hash)
			seen[b.d.At(hash)] = true
		}
		same(t, "how many entries were seen", len(seen), 1<<depth)
		b.hold()
	}
}

// P16.1
func TestEntryAndPutAtTheirEdges(t *testing.T) {
	for depth := range mostDepth + 1 {
		b := newBoth(t, depth)
		b.mark()
		last := 1<<depth - 1
		for _, i := range append(below(), above(last+1)...) {
			id, err := b.d.Entry(i)
			sameError(t, "Entry of "+strconv.Itoa(i), err, api.ErrRange)
			same(t, "Entry of "+strconv.Itoa(i), id, 0)
			for _, id := range []int{0, 1, 40, math.MaxInt, -1} {
				sameError(t, "Put of "+strconv.Itoa(i), b.d.Put(i, id), api.ErrRange)
			}
			b.hold()
		}
		for _, i := range []int{0, last / 2, last} {
			for _, id := range below() {
				sameError(t, "Put of a number below 0", b.d.Put(i, id), api.ErrRange)
				b.hold()
			}
			for _, id := range []int{math.MaxInt, 0, 1, 31, 32, 33, 1 << 32, 1 << 40, math.MaxInt - 1, math.MaxInt, 0} {
				b.put(i, id)
				got, err := b.d.Entry(i)
				sameError(t, "Entry", err, nil)
				same(t, "Entry", got, id)
				b.hold()
			}
			b.put(i, math.MaxInt)
		}
	}
}

// P16.1: each entry alone is put, and no other one is changed.
func TestPutOfEachEntry(t *testing.T) {
	for depth := range mostDepth + 1 {
		for i := range 1 << depth {
			b := newBoth(t, depth)
			b.mark()
			want := slices.Clone(b.s.ids)
			want[i] = 3
			sameError(t, "Put", b.d.Put(i, 3), nil)
			sameList(t, "List", b.d.List(), want)
			b.put(i, 3)
			b.hold()
		}
	}
}

// P16.1
func TestSpanOfFewPrefixes(t *testing.T) {
	for _, c := range []struct{ global, prefix, depth, from, to int }{
		{0, 0, 0, 0, 1},
		{1, 0, 0, 0, 2},
		{1, 0, 1, 0, 1},
		{1, 1, 1, 1, 2},
		{2, 0, 0, 0, 4},
		{2, 1, 1, 2, 4},
		{2, 2, 2, 2, 3},
		{3, 1, 2, 2, 4},
		{5, 0, 0, 0, 32},
		{5, 0, 1, 0, 16},
		{5, 1, 1, 16, 32},
		{5, 3, 2, 24, 32},
		{5, 5, 4, 10, 12},
		{5, 31, 5, 31, 32},
	} {
		from, to, err := makeNew(t, c.global).Span(c.prefix, c.depth)
		what := fmt.Sprintf("Span of %d of depth %d in depth %d", c.prefix, c.depth, c.global)
		sameError(t, what, err, nil)
		same(t, what+", from", from, c.from)
		same(t, what+", to", to, c.to)
	}
}

// P16.1
func TestSpanOfEachPrefix(t *testing.T) {
	for global := range mostDepth + 1 {
		b := newBoth(t, global)
		for depth := range global + 1 {
			for prefix := range 1 << depth {
				_, _, err := b.d.Span(prefix, depth)
				sameError(t, "Span", err, nil)
				b.span(prefix, depth)
			}
		}
		b.hold()
	}
}

// noPrefixes gives what is no prefix of a directory of a depth, as prefix and depth: depths that it hasn't, with prefixes that layer 3 knows and others, and prefixes that aren't of their depth.
func noPrefixes(global int) [][2]int {
	list := [][2]int{}
	for _, depth := range append(below(), above(global+1)...) {
		for _, prefix := range []int{0, 1, 2, 31, 32, 1 << 15, -1, math.MaxInt, math.MinInt} {
			list = append(list, [2]int{prefix, depth})
		}
	}
	for depth := global + 1; depth <= 17; depth++ {
		list = append(list, [2]int{0, depth}, [2]int{1, depth}, [2]int{1<<depth - 1, depth}, [2]int{1 << depth, depth})
	}
	for depth := range global + 1 {
		for _, prefix := range append(below(), above(1<<depth)...) {
			list = append(list, [2]int{prefix, depth})
		}
		for prefix := 1 << depth; prefix < 80; prefix++ {
			list = append(list, [2]int{prefix, depth}, [2]int{-prefix, depth})
		}
	}
	return list
}

// P16.1
func TestSpanAndSetOfNoPrefix(t *testing.T) {
	for global := range mostDepth + 1 {
		b := newBoth(t, global)
		b.mark()
		for _, p := range noPrefixes(global) {
			what := fmt.Sprintf(" of %d of depth %d in depth %d", p[0], p[1], global)
			from, to, err := b.d.Span(p[0], p[1])
			sameError(t, "Span"+what, err, api.ErrRange)
			same(t, "Span"+what+", from", from, 0)
			same(t, "Span"+what+", to", to, 0)
			for _, id := range []int{0, 1, math.MaxInt, -1, math.MinInt} {
				n, err := b.d.Set(p[0], p[1], id)
				sameError(t, "Set"+what, err, api.ErrRange)
				same(t, "Set"+what, n, 0)
			}
			sameList(t, "List behind Set"+what, b.d.List(), b.s.ids)
		}
		b.hold()
	}
}

// P16.1
func TestSetOfANumberBelow(t *testing.T) {
	for global := range mostDepth + 1 {
		b := newBoth(t, global)
		b.mark()
		for depth := range global + 1 {
			for prefix := range 1 << depth {
				for _, id := range below() {
					n, err := b.d.Set(prefix, depth, id)
					sameError(t, "Set", err, api.ErrRange)
					same(t, "Set", n, 0)
				}
			}
		}
		b.hold()
	}
}

// P16.1: how many entries are set, also when they have the number already.
func TestHowManyAreSet(t *testing.T) {
	for global := range mostDepth + 1 {
		for depth := range global + 1 {
			many := []int{1, 2, 4, 8, 16, 32}[global-depth]
			for prefix := range 1 << depth {
				b := newBoth(t, global)
				for _, id := range []int{0, 9, 9, 0, math.MaxInt, math.MaxInt, 1 << 32} {
					n, err := b.d.Set(prefix, depth, id)
					sameError(t, "Set", err, nil)
					same(t, fmt.Sprintf("Set of %d of depth %d in depth %d", prefix, depth, global), n, many)
					b.set(prefix, depth, id)
					b.hold()
				}
			}
		}
	}
}

// P16.1
func TestListIsTheCallers(t *testing.T) {
	for depth := range mostDepth + 1 {
		b := newBoth(t, depth)
		b.mark()
		b.list()
		b.list()
		first := b.lists[0]
		for i := range first {
			first[i] = -1
		}
		sameList(t, "another list", b.lists[1], b.wants[1])
		sameList(t, "a list behind it", b.d.List(), b.s.ids)
		b.lists[0] = slices.Clone(b.wants[0])
		b.spoil()
		b.hold()
		b.list()
		b.put(0, 5)
		b.list()
		b.set(0, 0, 6)
		b.hold()
		sameList(t, "a list ahead of Put and Set", b.lists[2], b.wants[0])
		same(t, "its entry behind Put", b.lists[3][0], 5)
	}
}

// P16.1: what is put or set in one directory isn't in another one of that depth, made ahead of it or behind it.
func TestTwoDirectories(t *testing.T) {
	for depth := range mostDepth + 1 {
		a, b := newBoth(t, depth), newBoth(t, depth)
		a.mark()
		b.hold()
		b.set(0, 0, 4)
		a.hold()
		newBoth(t, depth).hold()
	}
}

// P16.1: all orders of few calls, of each call with right numbers and with wrong ones.
func TestAllShortOrders(t *testing.T) {
	for depth, calls := range []int{5, 5, 4, 4} {
		last := 1<<depth - 1
		acts := []func(b *both){
			func(b *both) { b.put(last, 1); b.entry(last) },
			func(b *both) { b.put(0, 2); b.at(0) },
			func(b *both) { b.put(0, -1); b.put(last+1, 3); b.put(-1, 3) },
			func(b *both) { b.set(last, depth, 4); b.at(greatest) },
			func(b *both) { b.set(0, 0, 5) },
			func(b *both) { b.set(0, (depth+1)/2, 6); b.span(0, (depth+1)/2) },
			func(b *both) { b.set(last, depth, -1); b.set(last+1, depth, 7); b.set(0, depth+1, 7) },
			func(b *both) { b.list() },
			func(b *both) { b.spoil() },
			func(b *both) { b.depth(); b.len(); b.entry(0); b.entry(last + 1); b.span(-1, 0) },
		}
		orders := 1
		for range calls {
			orders *= len(acts)
		}
		first := newBoth(t, depth)
		for order := range orders {
			b, n := first.again(), order
			for range calls {
				acts[n%len(acts)](b)
				n /= len(acts)
			}
			b.hold()
		}
	}
}

// P16.1: long orders of all calls, of each depth, with numbers that are mostly right.
func TestLongOrders(t *testing.T) {
	next := some()
	pick := func(count int) int { return int(next() >> 11 % uint64(count)) }
	for depth := range mostDepth + 1 {
		first := newBoth(t, depth)
		for range 150 {
			b := first.again()
			for range 60 {
				i, id := pick(1<<depth+2)-1, pick(12)-1
				of := pick(depth+3) - 1
				prefix := pick(1<<max(of, 0)+2) - 1
				switch pick(9) {
				case 0, 1:
					b.put(i, id)
				case 2, 3:
					b.set(prefix, of, id)
				case 4:
					b.entry(i)
				case 5:
					b.span(prefix, of)
				case 6:
					b.at(next())
				case 7:
					b.list()
				case 8:
					b.spoil()
				}
			}
			b.hold()
		}
	}
}

// P16.2: of each prefix, with a number that no entry has, that entries of the prefix have, and that others have.
func TestBehindSetJustThePrefixHasTheNumber(t *testing.T) {
	next := some()
	for global := range mostDepth + 1 {
		for depth := range global + 1 {
			for prefix := range 1 << depth {
				for _, id := range []int{7, 100, 100 + 1<<global - 1, 100 + prefix} {
					b := newBoth(t, global)
					b.mark()
					hashes := slices.Clone(b.hashes)
					for range 40 {
						hashes = append(hashes, next())
					}
					setKeepsOthers(t, b.d, prefix, depth, id, hashes)
				}
			}
		}
	}
}

func setKeepsOthers(t *testing.T, d *Dir, prefix, depth, id int, hashes []uint64) {
	t.Helper()
	ahead := make([]int, len(hashes))
	for n, hash := range hashes {
		ahead[n] = d.At(hash)
	}
	_, err := d.Set(prefix, depth, id)
	sameError(t, "Set", err, nil)
	name, within := figures(uint64(prefix), depth), 0
	for n, hash := range hashes {
		what := fmt.Sprintf("At of %#x behind Set of %d of depth %d in depth %d", hash, prefix, depth, d.Depth())
		if strings.HasPrefix(figures(hash, hashLength), name) {
			within++
			same(t, what, d.At(hash), id)
			continue
		}
		same(t, what, d.At(hash), ahead[n])
	}
	if within < 9 {
		t.Fatalf("too little was seen: %d hashes of the prefix", within)
	}
}

// P16.2: each entry is in the span of just one prefix of a depth, and the spans stand side by side.
func TestThePrefixesOfADepthPartAllEntries(t *testing.T) {
	for global := range mostDepth + 1 {
		d := makeNew(t, global)
		for depth := range global + 1 {
			in, ahead := make([]int, 1<<global), 0
			for prefix := range 1 << depth {
				from, to, err := d.Span(prefix, depth)
				sameError(t, "Span", err, nil)
				same(t, "from", from, ahead)
				if to <= from {
					t.Fatalf("the span of %d of depth %d in depth %d is empty: %d, %d", prefix, depth, global, from, to)
				}
				for i := from; i < to; i++ {
					in[i]++
				}
				ahead = to
			}
			same(t, "the end of the last one", ahead, d.Len())
			sameList(t, "in how many spans each entry is", in, slices.Repeat([]int{1}, 1<<global))
		}
	}
}

// P16.2: once each prefix of a depth is set to its own number, each hash has the number of its prefix, in whatever order they were set.
func TestEachHashHasItsPrefix(t *testing.T) {
	next := some()
	for global := range mostDepth + 1 {
		for depth := range global + 1 {
			b := newBoth(t, global)
			prefixes := 1 << depth
			// An odd step comes by each of them once, since their number is a power of 2.
			for n := range prefixes {
				prefix := n * 5 % prefixes
				b.set(prefix, depth, 200+prefix)
			}
			hashes := slices.Clone(b.hashes)
			for range 100 {
				hashes = append(hashes, next())
			}
			for _, hash := range hashes {
				name := figures(hash, hashLength)[:depth]
				got := b.d.At(hash)
				same(t, fmt.Sprintf("the prefix of %#x of depth %d", hash, depth), figures(uint64(got-200), depth), name)
			}
			b.hold()
		}
	}
}
