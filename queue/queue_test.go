package queue

import (
	"errors"
	"fmt"
	"iter"
	"math"
	"slices"
	"testing"

	"ambler/api"
)

// The tests hold each call against a slow queue: a plain list of numbers, written anew by each act, and how many may wait.

const greatestMost = 40

type slow struct {
	most int
	list []int
}

// without is the list but for a number, and whether that was in it.
func (s *slow) without(id int) ([]int, bool) {
	rest, is := []int{}, false
	for _, other := range s.list {
		if other == id {
			is = true
		} else {
			rest = append(rest, other)
		}
	}
	return rest, is
}

func (s *slow) has(id int) bool {
	for _, other := range s.list {
		if other == id {
			return true
		}
	}
	return false
}

func (s *slow) push(id int) error {
	if s.has(id) {
		return api.ErrDup
	}
	if len(s.list) >= s.most {
		return api.ErrFull
	}
	s.list = slices.Concat(s.list, []int{id})
	return nil
}

func (s *slow) head() (int, bool) {
	for _, id := range s.list {
		return id, true
	}
	return 0, false
}

func (s *slow) pop() (int, bool) {
	id, is := s.head()
	s.list, _ = s.without(id)
	return id, is
}

func (s *slow) remove(id int) (is bool) {
	s.list, is = s.without(id)
	return is
}

func (s *slow) clear() { s.list = nil }

// extremes are numbers of any size, and below 0.
func extremes() []int {
	return []int{0, 1, -1, 2, -2, 39, 40, 41, 1 << 8, 1 << 16, math.MaxInt32, math.MinInt32, 1 << 32, 1<<32 + 1, -1 << 32, 1 << 53, 1<<53 + 1, 1 << 62, math.MaxInt - 1, math.MaxInt, math.MinInt, math.MinInt + 1}
}

// some gives numbers without a pattern.
func some() func() uint64 {
	x := uint64(88172645463325252)
	return func() uint64 {
		x ^= x << 13
		x ^= x >> 7
		x ^= x << 17
		return x
	}
}

// upTo is from, from + 1, and so on, so many.
func upTo(from, many int) []int {
	list := []int{}
	for n := range many {
		list = append(list, from+n)
	}
	return list
}

func same[T comparable](t *testing.T, what string, got, want T) {
	t.Helper()
	if got != want {
		t.Fatalf("%s: %v, not %v", what, got, want)
	}
}

func sameList(t *testing.T, what string, got, want []int) {
	t.Helper()
	if !slices.Equal(got, want) {
		t.Fatalf("%s: %v, not %v", what, got, want)
	}
}

// sameError asks by ==, not by errors.Is alone: the promise is that error, not one around it.
func sameError(t *testing.T, what string, got, want error) {
	t.Helper()
	if got == nil || want == nil {
		if got != nil || want != nil {
			t.Fatalf("%s: %v, not %v", what, got, want)
		}
		return
	}
	if got != want || !errors.Is(got, want) {
		t.Fatalf("%s: %v, not %v", what, got, want)
	}
}

// sameFound is for a number and whether there is one.
func sameFound(t *testing.T, what string, got int, is bool, want int, wantIs bool) {
	t.Helper()
	if got != want || is != wantIs {
		t.Fatalf("%s: %d, %v, not %d, %v", what, got, is, want, wantIs)
	}
}

func makeNew(t *testing.T, most int) *Queue {
	t.Helper()
	q, err := New(most)
	sameError(t, "New", err, nil)
	if q == nil {
		t.Fatal("New: no queue")
	}
	return q
}

func push(t *testing.T, q *Queue, ids ...int) {
	t.Helper()
	for _, id := range ids {
		sameError(t, fmt.Sprintf("Push of %d", id), q.Push(id), nil)
	}
}

// collect is the numbers that are gone over; their places must go from 0 on.
func collect(t *testing.T, what string, all iter.Seq2[int, int]) []int {
	t.Helper()
	list := []int{}
	for place, id := range all {
		same(t, what+", a place", place, len(list))
		list = append(list, id)
	}
	return list
}

// holdOnly asks all that doesn't change a queue for those numbers that wait, in order, and for others that don't.
func holdOnly(t *testing.T, what string, q *Queue, want []int, others ...int) {
	t.Helper()
	same(t, what+", Len", q.Len(), len(want))
	sameList(t, what+", All", collect(t, what, q.All()), want)
	first, is := 0, false
	if len(want) > 0 {
		first, is = want[0], true
	}
	got, gotIs := q.Head()
	sameFound(t, what+", Head", got, gotIs, first, is)
	for _, id := range want {
		same(t, fmt.Sprintf("%s, Has of %d", what, id), q.Has(id), true)
	}
	for _, id := range others {
		same(t, fmt.Sprintf("%s, Has of %d", what, id), q.Has(id), slices.Contains(want, id))
	}
}

// popAll pops until nothing waits.
func popAll(t *testing.T, q *Queue) []int {
	t.Helper()
	list := []int{}
	for range greatestMost + 1 {
		id, is := q.Pop()
		if !is {
			same(t, "the number beside a false", id, 0)
			return list
		}
		list = append(list, id)
	}
	t.Fatal("more waits than may wait")
	return nil
}

// both is a queue and a slow one, of which each is asked what the other is.
type both struct {
	t    *testing.T
	q    *Queue
	s    *slow
	done []string
	asks []int // the numbers of which Has is asked
}

func newBoth(t *testing.T, most int, asks []int) *both {
	t.Helper()
	return &both{t: t, q: makeNew(t, most), s: &slow{most: most}, asks: asks}
}

func (b *both) say(what string, numbers ...int) {
	b.done = append(b.done, what+fmt.Sprint(numbers))
}

func (b *both) fail(what string, got, want any) {
	b.t.Helper()
	b.t.Fatalf("of %d at most, %s behind %v: %v, not %v", b.s.most, what, b.done, got, want)
}

func (b *both) push(id int) {
	b.t.Helper()
	b.say("push", id)
	got, want := b.q.Push(id), b.s.push(id)
	if got != want {
		b.fail("the answer", got, want)
	}
}

func (b *both) pop() {
	b.t.Helper()
	b.say("pop")
	id, is := b.q.Pop()
	want, wantIs := b.s.pop()
	if id != want || is != wantIs {
		b.fail("the answer", []any{id, is}, []any{want, wantIs})
	}
}

func (b *both) remove(id int) {
	b.t.Helper()
	b.say("remove", id)
	got, want := b.q.Remove(id), b.s.remove(id)
	if got != want {
		b.fail("the answer", got, want)
	}
}

func (b *both) clear() {
	b.say("clear")
	b.q.Clear()
	b.s.clear()
}

// hold asks all that doesn't change a queue, twice, so that what asking would change is seen, too.
func (b *both) hold() {
	b.t.Helper()
	for range 2 {
		if got, want := b.q.Len(), len(b.s.list); got != want {
			b.fail("Len", got, want)
		}
		id, is := b.q.Head()
		want, wantIs := b.s.head()
		if id != want || is != wantIs {
			b.fail("Head", []any{id, is}, []any{want, wantIs})
		}
		for _, id := range b.asks {
			if got, want := b.q.Has(id), b.s.has(id); got != want {
				b.fail(fmt.Sprintf("Has of %d", id), got, want)
			}
		}
		b.holdAll()
	}
}

func (b *both) holdAll() {
	b.t.Helper()
	places, ids := []int{}, []int{}
	for place, id := range b.q.All() {
		places, ids = append(places, place), append(ids, id)
	}
	if !slices.Equal(ids, b.s.list) {
		b.fail("All", ids, b.s.list)
	}
	if want := upTo(0, len(b.s.list)); !slices.Equal(places, want) {
		b.fail("the places of All", places, want)
	}
}

// P18.1
func TestTheExample(t *testing.T) {
	q := makeNew(t, 3)
	push(t, q, 3, 1, 2)
	same(t, "Remove", q.Remove(1), true)
	sameList(t, "All", collect(t, "All", q.All()), []int{3, 2})
	sameList(t, "what is popped", popAll(t, q), []int{3, 2})
}

// P18.1: nothing waits in a new queue, of each number that may wait at most; and just so many may.
func TestNewOfEachMost(t *testing.T) {
	same(t, "MaxQueue", api.MaxQueue, greatestMost)
	for most := 1; most <= greatestMost; most++ {
		q := makeNew(t, most)
		what := fmt.Sprintf("a new one of %d", most)
		holdOnly(t, what, q, nil, extremes()...)
		id, is := q.Pop()
		sameFound(t, what+", Pop", id, is, 0, false)
		for _, id := range extremes() {
			same(t, what+", Remove", q.Remove(id), false)
		}
		q.Clear()
		holdOnly(t, what, q, nil, extremes()...)
		push(t, q, upTo(100, most)...)
		sameError(t, what+", one more", q.Push(99), api.ErrFull)
		holdOnly(t, what, q, upTo(100, most), 99)
	}
}

// P18.1
func TestNewOfNoRange(t *testing.T) {
	mosts := []int{0, -1, -2, -39, -40, -41, math.MinInt32, math.MinInt32 + 1, -1 << 32, -1<<32 + 1, math.MinInt, math.MinInt + 1,
		41, 42, 80, 1 << 8, 1<<8 + 1, 1 << 16, 1<<16 + 40, math.MaxInt32, 1 << 32, 1<<32 + 1, 1<<32 + 40, 1 << 62, math.MaxInt - 1, math.MaxInt}
	for _, most := range mosts {
		q, err := New(most)
		sameError(t, fmt.Sprintf("New of %d", most), err, api.ErrRange)
		same(t, "the queue", q, nil)
	}
}

// P18.1: each number that waits is refused, at each place, with room for more and without; that it waits is told ahead of that there is no room.
func TestPushOfWhatWaits(t *testing.T) {
	for most := 1; most <= greatestMost; most++ {
		q, want := makeNew(t, most), []int{}
		for n := range most {
			push(t, q, 10+n)
			want = append(want, 10+n)
			for _, id := range want {
				what := fmt.Sprintf("Push of %d while %v wait", id, want)
				sameError(t, what, q.Push(id), api.ErrDup)
				same(t, what+", Len", q.Len(), n+1)
			}
			holdOnly(t, "behind what is refused", q, want, 0, 9, 11+n)
		}
		for n := range 3 {
			sameError(t, "one more", q.Push(50+n), api.ErrFull)
			sameError(t, "one more that waits", q.Push(10), api.ErrDup)
		}
		holdOnly(t, "behind what is refused", q, want, 50, 51, 52)
		sameList(t, "what is popped", popAll(t, q), want)
	}
}

// P18.1: what waited and does no more may be pushed again, and is the last one then, whichever way it went.
func TestPushOfWhatWaited(t *testing.T) {
	ways := map[string]func(q *Queue){
		"Pop":    func(q *Queue) { q.Pop() },
		"Remove": func(q *Queue) { q.Remove(1) },
		"Clear":  func(q *Queue) { q.Clear(); _ = q.Push(2); _ = q.Push(3) },
	}
	for name, way := range ways {
		for _, most := range []int{3, 4, greatestMost} {
			q := makeNew(t, most)
			push(t, q, 1, 2, 3)
			sameError(t, "ahead of "+name, q.Push(1), api.ErrDup)
			way(q)
			holdOnly(t, "behind "+name, q, []int{2, 3}, 1)
			push(t, q, 1)
			holdOnly(t, "pushed again behind "+name, q, []int{2, 3, 1})
			sameError(t, "behind "+name, q.Push(1), api.ErrDup)
			sameList(t, "what is popped", popAll(t, q), []int{2, 3, 1})
		}
	}
}

// P18.1: numbers of any size, and below 0; 0 waits only if it was pushed.
func TestNumbersOfAnySize(t *testing.T) {
	ids := extremes()
	q := makeNew(t, greatestMost)
	for n, id := range ids {
		same(t, "Has ahead of Push", q.Has(id), false)
		push(t, q, id)
		sameError(t, "pushed twice", q.Push(id), api.ErrDup)
		holdOnly(t, "pushed", q, ids[:n+1], ids...)
	}
	for n, id := range ids {
		sameError(t, "pushed twice", q.Push(id), api.ErrDup)
		got, is := q.Head()
		sameFound(t, "Head", got, is, id, true)
		got, is = q.Pop()
		sameFound(t, "Pop", got, is, id, true)
		holdOnly(t, "popped", q, ids[n+1:], ids...)
	}
	for n, id := range ids {
		push(t, q, ids...)
		same(t, "Remove", q.Remove(id), true)
		same(t, "Remove", q.Remove(id), false)
		want := slices.Concat(ids[:n], ids[n+1:])
		holdOnly(t, "removed", q, want, id)
		sameList(t, "what is popped", popAll(t, q), want)
	}
}

// P18.1: with each number that waits, and behind as many Pushes and Pops as one likes.
func TestHeadAndPop(t *testing.T) {
	for _, most := range []int{1, 2, 3, 7, 8, greatestMost} {
		for ahead := range 2*most + 3 {
			q := makeNew(t, most)
			for n := range ahead {
				push(t, q, n)
				id, is := q.Pop()
				sameFound(t, "Pop of the only one", id, is, n, true)
			}
			for many := range most + 1 {
				push(t, q, upTo(1000, many)...)
				for n := range many {
					for range 2 {
						id, is := q.Head()
						sameFound(t, "Head", id, is, 1000+n, true)
					}
					id, is := q.Pop()
					sameFound(t, "Pop", id, is, 1000+n, true)
					same(t, "Has of what is popped", q.Has(1000+n), false)
					same(t, "Len", q.Len(), many-n-1)
				}
				for range 2 {
					id, is := q.Head()
					sameFound(t, "Head of nothing", id, is, 0, false)
					id, is = q.Pop()
					sameFound(t, "Pop of nothing", id, is, 0, false)
					same(t, "Len", q.Len(), 0)
				}
			}
		}
	}
}

// P18.1: the number at each place, of each number of those that wait; then once more, as it waits no more; then it is pushed, as there is room.
func TestRemoveAtEachPlace(t *testing.T) {
	for _, most := range []int{1, 2, 3, 4, 8, 39, greatestMost} {
		for many := 1; many <= most; many++ {
			for place := range many {
				q := makeNew(t, most)
				push(t, q, -1)
				q.Pop()
				push(t, q, upTo(1, many)...)
				what := fmt.Sprintf("Remove at %d of %d", place, many)
				id := place + 1
				want := slices.Concat(upTo(1, place), upTo(place+2, many-place-1))
				same(t, what, q.Remove(id), true)
				holdOnly(t, what, q, want, id, 0, -1)
				same(t, what+", again", q.Remove(id), false)
				holdOnly(t, what+", again", q, want, id)
				push(t, q, id)
				holdOnly(t, what+", pushed again", q, slices.Concat(want, []int{id}))
			}
		}
	}
}

// P18.1: what doesn't wait: nothing pushed, never pushed, popped, removed, cleared.
func TestRemoveOfWhatDoesntWait(t *testing.T) {
	q := makeNew(t, 4)
	refuse := func(want []int, ids ...int) {
		t.Helper()
		for _, id := range ids {
			for range 2 {
				same(t, fmt.Sprintf("Remove of %d", id), q.Remove(id), false)
			}
		}
		holdOnly(t, "behind it", q, want, ids...)
	}
	refuse(nil, extremes()...)
	push(t, q, 5, 6, 7, 8)
	refuse([]int{5, 6, 7, 8}, extremes()...)
	q.Pop()
	refuse([]int{6, 7, 8}, 5, 0)
	same(t, "Remove", q.Remove(8), true)
	refuse([]int{6, 7}, 5, 8, 0)
	same(t, "Remove", q.Remove(6), true)
	same(t, "Remove of the only one", q.Remove(7), true)
	refuse(nil, 0, 5, 6, 7, 8)
	push(t, q, 5, 6)
	q.Clear()
	refuse(nil, 0, 5, 6, 7, 8)
}

// P18.1: of what is pushed behind each Remove the places close up: all are removed in each order of four.
func TestRemoveInEachOrder(t *testing.T) {
	orders := [][]int{{}}
	for id := range 4 {
		longer := [][]int{}
		for _, order := range orders {
			for place := range len(order) + 1 {
				longer = append(longer, slices.Insert(slices.Clone(order), place, id))
			}
		}
		orders = longer
	}
	same(t, "how many orders", len(orders), 24)
	for _, order := range orders {
		b := newBoth(t, 4, upTo(-1, 8))
		for id := range 4 {
			b.push(id)
		}
		for _, id := range order {
			b.remove(id)
			b.hold()
		}
		same(t, "Len", b.q.Len(), 0)
		b.push(order[0])
		b.hold()
	}
}

// P18.1: broken off at each place: nothing is yielded behind it, and the queue is as it was.
func TestAllBrokenOff(t *testing.T) {
	q := makeNew(t, greatestMost)
	push(t, q, -1)
	q.Pop()
	push(t, q, upTo(100, greatestMost)...)
	all := q.All()
	for last := range greatestMost {
		seen := []int{}
		for place, id := range all {
			same(t, "a place", place, len(seen))
			seen = append(seen, id)
			if place == last {
				break
			}
		}
		sameList(t, "what is yielded", seen, upTo(100, last+1))
		calls := 0
		all(func(int, int) bool {
			calls++
			return calls <= last
		})
		same(t, "how often it is yielded", calls, last+1)
		holdOnly(t, "behind it", q, upTo(100, greatestMost))
	}
}

// P18.1: what All answers may be gone over again and again, and each time it is what waits when one begins, not when All was called.
func TestAllIsAsOfItsBeginning(t *testing.T) {
	q := makeNew(t, 3)
	all := q.All()
	hold := func(want ...int) {
		t.Helper()
		for range 2 {
			sameList(t, "what All answered first", collect(t, "All", all), want)
			sameList(t, "All", collect(t, "All", q.All()), want)
		}
	}
	hold()
	push(t, q, 1, 2)
	hold(1, 2)
	q.Pop()
	hold(2)
	push(t, q, 3, 4)
	hold(2, 3, 4)
	q.Remove(3)
	hold(2, 4)
	q.Clear()
	hold()
	push(t, q, 0)
	hold(0)
}

// acts is what may be done to a queue, each to be done while somebody goes over it; 1 to 8 wait, and there is room for more.
func acts() []func(b *both) {
	return []func(b *both){
		func(b *both) { b.push(9) },
		func(b *both) { b.pop() },
		func(b *both) { b.remove(1) },
		func(b *both) { b.remove(4) },
		func(b *both) { b.remove(8) },
		func(b *both) { b.clear() },
		func(b *both) { b.pop(); b.push(1) },
		func(b *both) { b.remove(8); b.push(8); b.push(10) },
		func(b *both) { b.clear(); b.push(11); b.push(12) },
		func(b *both) { b.push(5); b.remove(99); b.hold() },
	}
}

// P18.1: whatever is pushed, popped, removed or cleared meanwhile, at each place, or at two.
func TestAllWhileItChanges(t *testing.T) {
	const many = 8
	asks := upTo(-1, 15)
	for _, most := range []int{many, many + 1, 12, greatestMost} {
		for ahead := range 3 {
			for first := range many {
				for second := first; second < many; second++ {
					for n, one := range acts() {
						for m, other := range acts() {
							if most != 12 && n != m {
								continue
							}
							b := newBoth(t, most, asks)
							for n := range ahead {
								b.push(-n)
								b.pop()
							}
							for id := range many {
								b.push(id + 1)
							}
							seen := []int{}
							for place, id := range b.q.All() {
								same(t, "a place", place, len(seen))
								seen = append(seen, id)
								if place == first {
									one(b)
								}
								if place == second {
									other(b)
								}
							}
							sameList(t, "what is yielded", seen, upTo(1, many))
							b.hold()
						}
					}
				}
			}
		}
	}
}

// P18.1: several may go over one queue at a time, each over what waited when it began.
func TestAllWithinAll(t *testing.T) {
	q := makeNew(t, 8)
	push(t, q, 1, 2, 3)
	outer, lists := []int{}, [][]int{}
	for _, id := range q.All() {
		outer = append(outer, id)
		lists = append(lists, collect(t, "All", q.All()))
		push(t, q, 10+id)
		same(t, "Remove", q.Remove(id), true)
	}
	sameList(t, "the outer one", outer, []int{1, 2, 3})
	sameList(t, "the first inner one", lists[0], []int{1, 2, 3})
	sameList(t, "the second", lists[1], []int{2, 3, 11})
	sameList(t, "the third", lists[2], []int{3, 11, 12})
	holdOnly(t, "at last", q, []int{11, 12, 13}, 1, 2, 3)
}

// P18.1: all of it may be popped while somebody goes over it, until it is full again of others.
func TestAllWhileEachIsPopped(t *testing.T) {
	for _, most := range []int{1, 2, 8, greatestMost} {
		q := makeNew(t, most)
		push(t, q, upTo(0, most)...)
		for place, id := range q.All() {
			same(t, "its number", id, place)
			got, is := q.Pop()
			sameFound(t, "Pop", got, is, id, true)
			push(t, q, 100+place)
		}
		holdOnly(t, "at last", q, upTo(100, most), upTo(0, most)...)
	}
}

// P18.1: of nothing, of one, of some and of most; then there is room for most again.
func TestClear(t *testing.T) {
	for _, most := range []int{1, 2, 3, 8, 39, greatestMost} {
		q := makeNew(t, most)
		for many := range most + 1 {
			for popped := range min(many, 3) + 1 {
				push(t, q, upTo(1, many)...)
				for range popped {
					q.Pop()
				}
				for range 2 {
					q.Clear()
					holdOnly(t, "cleared", q, nil, upTo(0, most+2)...)
					id, is := q.Pop()
					sameFound(t, "Pop", id, is, 0, false)
					same(t, "Remove", q.Remove(1), false)
				}
				want := upTo(many/2, most)
				push(t, q, want...)
				sameError(t, "one more", q.Push(-1), api.ErrFull)
				sameError(t, "one twice", q.Push(many/2), api.ErrDup)
				holdOnly(t, "pushed behind it", q, want, -1)
				sameList(t, "what is popped", popAll(t, q), want)
			}
		}
	}
}

// P18.1: queues that are used in turns have each its own numbers.
func TestSeveralQueues(t *testing.T) {
	asks := upTo(-1, 30)
	for _, most := range []int{1, 2, 5, greatestMost} {
		x, y := newBoth(t, most, asks), newBoth(t, most, asks)
		for n := range 20 {
			x.push(n)
			y.hold()
			y.push(n / 2)
			x.hold()
			if n%3 == 0 {
				x.pop()
				y.hold()
			}
			if n%4 == 0 {
				y.remove(n / 3)
				x.hold()
			}
		}
		x.clear()
		y.hold()
		x.hold()
	}
}

// P18.1: all orders of few acts, of each call with numbers that wait and with others, on small queues.
func TestAllShortOrders(t *testing.T) {
	const calls = 5
	asks := upTo(-1, 6)
	each := []func(b *both){
		func(b *both) { b.push(0) },
		func(b *both) { b.push(1) },
		func(b *both) { b.push(2) },
		func(b *both) { b.push(3) },
		func(b *both) { b.pop() },
		func(b *both) { b.remove(0) },
		func(b *both) { b.remove(1) },
		func(b *both) { b.remove(2) },
		func(b *both) { b.clear() },
	}
	orders := 1
	for range calls {
		orders *= len(each)
	}
	for most := 1; most <= 3; most++ {
		for order := range orders {
			b, n := newBoth(t, most, asks), order
			for range calls {
				each[n%len(each)](b)
				n /= len(each)
				b.hold()
			}
		}
	}
}

// P18.1: long orders of all acts, with many more Pushes and Pops than may wait at once, of each number that may wait at most.
func TestLongOrders(t *testing.T) {
	next := some()
	pick := func(count int) int { return int(next() >> 11 % uint64(count)) }
	pushed, full, twice := 0, 0, 0
	for most := 1; most <= greatestMost; most++ {
		asks := upTo(-3, most+8)
		for round := range 6 {
			b := newBoth(t, most, asks)
			id := func() int { return pick(most+8) - 3 }
			// Some orders push more than they take, so that most wait, others less, so that nothing does.
			pushes := 2 + round
			for range 25 * most {
				switch act := pick(12); {
				case act < pushes+2:
					id := id()
					if b.s.has(id) {
						twice++
					} else if len(b.s.list) == most {
						full++
					} else {
						pushed++
					}
					b.push(id)
				case act < 10:
					b.pop()
				case act < 11 || pick(4*most) > 0:
					b.remove(id())
				default:
					b.clear()
				}
				b.hold()
				b.done = b.done[max(0, len(b.done)-30):]
			}
		}
	}
	if pushed < 25000 || full < 1500 || twice < 7500 {
		t.Fatalf("too little was seen: %d pushed, %d where most waited, %d that waited", pushed, full, twice)
	}
}

// P18.2: what is pushed and never removed is popped in the order of its Pushes, behind each number of Pushes and Pops, and with each number that waits all the while.
func TestFirstInFirstOut(t *testing.T) {
	for _, most := range []int{1, 2, 3, 4, 7, 8, 16, 39, greatestMost} {
		for keep := range most {
			q, pushed, popped := makeNew(t, most), 0, 0
			for range keep {
				push(t, q, 7*pushed)
				pushed++
			}
			for range 3*greatestMost + 5 {
				push(t, q, 7*pushed)
				pushed++
				id, is := q.Pop()
				sameFound(t, "Pop", id, is, 7*popped, true)
				popped++
				same(t, "Len", q.Len(), keep)
			}
			for _, id := range popAll(t, q) {
				same(t, "Pop", id, 7*popped)
				popped++
			}
			same(t, "how many were popped", popped, pushed)
		}
	}
}

// P18.2: whatever is removed meanwhile: each set of five numbers, removed from the first one on or from the last one, behind some Pushes and Pops, and with others pushed behind it.
func TestFirstInFirstOutButForWhatIsRemoved(t *testing.T) {
	const many = 5
	for _, most := range []int{many, many + 2, 8, greatestMost} {
		for ahead := range most + 2 {
			for set := range 1 << many {
				for _, back := range []bool{false, true} {
					q := makeNew(t, most)
					for n := range ahead {
						push(t, q, n)
						q.Pop()
					}
					push(t, q, upTo(100, many)...)
					want := []int{}
					for n := range many {
						if set>>n&1 == 0 {
							want = append(want, 100+n)
						}
					}
					for n := range many {
						if back {
							n = many - 1 - n
						}
						if set>>n&1 == 1 {
							same(t, "Remove", q.Remove(100+n), true)
						}
					}
					behind := upTo(200, most-len(want))
					push(t, q, behind...)
					sameList(t, "what is popped", popAll(t, q), slices.Concat(want, behind))
				}
			}
		}
	}
}

// P18.2: each number is pushed only once ever, so that it tells when: those that are popped rise, and with those that are removed, and those that are left, they are all that were pushed.
func TestPoppedRise(t *testing.T) {
	next := some()
	pick := func(count int) int { return int(next() >> 11 % uint64(count)) }
	for _, most := range []int{1, 2, 3, 5, 8, 13, 39, greatestMost} {
		for round := range 20 {
			q := makeNew(t, most)
			pushed, popped, removed := 0, []int{}, []int{}
			for range 40 * most {
				switch act := pick(10); {
				case act < 4+round%3:
					if q.Push(pushed) == nil {
						pushed++
					}
				case act < 9:
					if id, is := q.Pop(); is {
						popped = append(popped, id)
					}
				default:
					if id := pushed - 1 - pick(most+1); q.Remove(id) {
						removed = append(removed, id)
					}
				}
			}
			popped = slices.Concat(popped, popAll(t, q))
			same(t, "whether they rise", slices.IsSorted(popped), true)
			all := slices.Concat(popped, removed)
			slices.Sort(all)
			sameList(t, "all together", all, upTo(0, pushed))
		}
	}
}
