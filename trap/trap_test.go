package trap

import (
	"errors"
	"slices"
	"strconv"
	"testing"

	"ambler/api"
)

// Which error is answered is asked by ==, not by errors.Is alone: the promise is that error, not one around it.

// theErrors are all of package api.
func theErrors() []error {
	return []error{
		api.ErrRange, api.ErrFull, api.ErrForm, api.ErrNone, api.ErrState, api.ErrBadIter, api.ErrTooMany, api.ErrHash,
		api.ErrLong, api.ErrBroken, api.ErrLimit, api.ErrEmpty, api.ErrNumber, api.ErrKind, api.ErrName, api.ErrDup,
	}
}

// around is an error that has another one in it.
type around struct {
	text  string
	inner error
}

func (a *around) Error() string { return a.text + ": " + a.inner.Error() }
func (a *around) Unwrap() error { return a.inner }

// texts is an error that == can't compare.
type texts []string

func (t texts) Error() string { return "texts" }

// alike has the form of what Raise may panic with, but is none.
type alike struct {
	err error
}

// another is a way to panic that isn't Raise.
type another struct {
	name string
	f    func()
}

// others gives the ways to panic: with values, with errors that weren't raised, with nil, and by what the language forbids.
func others() []another {
	zero, six := 0, 6
	var list []int
	var table map[int]int
	var pointer *another
	var none func()
	var box any = "text"
	ways := []another{
		{"a text", func() { panic("text") }},
		{"an empty text", func() { panic("") }},
		{"a number", func() { panic(7) }},
		{"0", func() { panic(0) }},
		{"false", func() { panic(false) }},
		{"a struct", func() { panic(struct{}{}) }},
		{"a struct with an error", func() { panic(alike{api.ErrLimit}) }},
		{"a pointer to a struct with an error", func() { panic(&alike{api.ErrLimit}) }},
		{"a list that can't be compared", func() { panic([]int{1, 2}) }},
		{"a function", func() { panic(func() error { return api.ErrLimit }) }},
		{"nil", func() { panic(nil) }},
		{"an error that is nil", func() { var err error; panic(err) }},
		{"a pointer that is nil", func() { panic(pointer) }},
		{"an error with one in it", func() { panic(&around{"far", api.ErrLimit}) }},
		{"an error that can't be compared", func() { panic(texts{"a"}) }},
		{"a division by 0", func() { zero = six / zero }},
		{"a rest of a division by 0", func() { zero = six % zero }},
		{"an index that there isn't", func() { zero = list[six] }},
		{"an index below 0", func() { zero = make([]int, six)[zero-1] }},
		{"a part of a list that there isn't", func() { list = list[:six] }},
		{"a write to a map that is nil", func() { table[1] = 1 }},
		{"a field of nil", func() { zero = len(pointer.name) }},
		{"a call of nil", func() { none() }},
		{"a value of another type", func() { zero = box.(int) }},
		{"a list of a length below 0", func() { list = make([]int, zero-1) }},
		{"a channel that is closed twice", func() { c := make(chan int); close(c); close(c) }},
	}
	for _, err := range theErrors() {
		ways = append(ways, another{"not raised: " + err.Error(), func() { panic(err) }})
	}
	return ways
}

func same(t *testing.T, what string, got, want error) {
	t.Helper()
	if got == nil || want == nil {
		if got != nil || want != nil {
			t.Errorf("%s: %v, not %v", what, got, want)
		}
		return
	}
	if got != want {
		t.Errorf("%s: %v, not %v", what, got, want)
	}
}

// panics tells whether f panics.
func panics(f func()) (so bool) {
	so = true
	defer func() { recover() }()
	f()
	return false
}

// P5.1
func TestTheExamples(t *testing.T) {
	same(t, "Catch of a function that Raises ErrLimit", Catch(func() { Raise(api.ErrLimit) }), api.ErrLimit)
	zero := 0
	same(t, "Catch of one that divides by 0", Catch(func() { zero = 1 / zero }), api.ErrBroken)
}

// P5.1
func TestNoFunctionIsErrEmpty(t *testing.T) {
	same(t, "Catch of nil", Catch(nil), api.ErrEmpty)
	triesNone(t, 0)
	triesNone(t, "")
	triesNone(t, 0.0)
	triesNone(t, false)
	triesNone(t, [2]int{})
	triesNone(t, api.Entry{})
	triesNone[*int](t, nil)
	triesNone[any](t, nil)
	triesNone[error](t, nil)
}

func triesNone[T comparable](t *testing.T, none T) {
	t.Helper()
	v, err := Try[T](nil)
	if v != none {
		t.Errorf("Try of nil answers the value %v", v)
	}
	same(t, "Try of nil", err, api.ErrEmpty)
}

// P5.1: it is called just once.
func TestAFunctionThatComesBackIsNoError(t *testing.T) {
	calls := 0
	same(t, "Catch", Catch(func() { calls++ }), nil)
	if calls != 1 {
		t.Errorf("Catch calls it %d times", calls)
	}
	calls = 0
	v, err := Try(func() (int, error) { calls++; return 7, nil })
	if v != 7 || calls != 1 {
		t.Errorf("Try calls it %d times, and answers %d", calls, v)
	}
	same(t, "Try", err, nil)
}

// P5.1
func TestCatchAnswersJustTheErrorThatIsRaised(t *testing.T) {
	for _, err := range theErrors() {
		same(t, "raised", Catch(func() { Raise(err) }), err)
	}
	own := &around{"near", api.ErrFull}
	same(t, "an error with one in it", Catch(func() { Raise(own) }), own)
	unlike := errors.New(api.ErrLimit.Error())
	same(t, "an error of the same text", Catch(func() { Raise(unlike) }), unlike)
	var none *around
	same(t, "an error that has a nil pointer in it", Catch(func() { Raise(none) }), error(none))
	got, is := Catch(func() { Raise(texts{"a", "b"}) }).(texts)
	if !is || !slices.Equal(got, texts{"a", "b"}) {
		t.Errorf("an error that can't be compared: %v", got)
	}
}

// P5.1
func TestRaiseOfNilDoesNothing(t *testing.T) {
	behind := false
	same(t, "Catch", Catch(func() { Raise(nil); behind = true }), nil)
	if !behind {
		t.Error("what stands behind a Raise of nil isn't done")
	}
	if panics(func() { Raise(nil) }) {
		t.Error("a Raise of nil panics")
	}
}

// P5.1: without a Catch around them, too.
func TestWhatRaisesPanics(t *testing.T) {
	for _, err := range theErrors() {
		if !panics(func() { Raise(err) }) {
			t.Errorf("Raise of %v comes back", err)
		}
		if !panics(func() { Must(1, err) }) {
			t.Errorf("Must of %v comes back", err)
		}
	}
	if !panics(func() { Need(false) }) {
		t.Error("Need of what isn't so comes back")
	}
}

// P5.1
func TestNeed(t *testing.T) {
	behind := false
	same(t, "of what is so", Catch(func() { Need(true); behind = true }), nil)
	if !behind {
		t.Error("what stands behind a Need of what is so isn't done")
	}
	behind = false
	same(t, "of what isn't", Catch(func() { Need(false); behind = true }), api.ErrBroken)
	if behind {
		t.Error("what stands behind a Need of what isn't so is done")
	}
	if panics(func() { Need(true) }) {
		t.Error("Need of what is so panics")
	}
}

// P5.1
func TestMustWithoutAnErrorIsItsValue(t *testing.T) {
	number := 5
	entry := api.Entry{Key: 1, Val: 2, Hash: 3}
	list := []int{1, 2, 3}
	if Must(number, nil) != 5 || Must("text", nil) != "text" || Must(entry, nil) != entry || Must(&number, nil) != &number {
		t.Error("Must answers another value")
	}
	if got := Must(list, nil); &got[0] != &list[0] || len(got) != 3 {
		t.Error("Must answers another list")
	}
	if Must(0, nil) != 0 || Must[any](nil, nil) != nil || Must[error](api.ErrFull, nil) != api.ErrFull {
		t.Error("Must answers another zero value, or another error as its value")
	}
	if panics(func() { Must(1, nil) }) {
		t.Error("Must without an error panics")
	}
}

// P5.1
func TestMustWithAnErrorRaisesIt(t *testing.T) {
	for _, err := range theErrors() {
		got, behind := 0, false
		same(t, "Must", Catch(func() { got = Must(7, err); behind = true }), err)
		if got != 0 || behind {
			t.Errorf("Must with %v comes back with %d", err, got)
		}
	}
	same(t, "Must of nil", Catch(func() { Must[any](nil, api.ErrDup) }), api.ErrDup)
	own := &around{"near", api.ErrFull}
	same(t, "an error with one in it", Catch(func() { Must("", own) }), own)
}

// P5.1
func TestAPanicInAnotherWayIsErrBroken(t *testing.T) {
	for _, other := range others() {
		same(t, "Catch, "+other.name, Catch(other.f), api.ErrBroken)
		v, err := Try(func() (int, error) { other.f(); return 7, nil })
		if v != 0 {
			t.Errorf("Try, %s: the value is %d", other.name, v)
		}
		same(t, "Try, "+other.name, err, api.ErrBroken)
	}
}

// P5.1: where the language is set to recover nil of a panic with nil, too.
func TestAPanicOfWhichNilIsRecovered(t *testing.T) {
	t.Setenv("GODEBUG", "panicnil=1")
	same(t, "Catch", Catch(func() { panic(nil) }), api.ErrBroken)
	v, err := Try(func() (int, error) { panic(nil) })
	if v != 0 {
		t.Errorf("Try: the value is %d", v)
	}
	same(t, "Try", err, api.ErrBroken)
	same(t, "a function that comes back", Catch(func() {}), nil)
}

// P5.1
func TestWhatIsDoneAheadOfAPanicStaysDone(t *testing.T) {
	ways := append(others(), another{"raised", func() { Raise(api.ErrLimit) }}, another{"needed", func() { Need(false) }})
	for _, way := range ways {
		list, table, number := []int{1, 2}, map[string]int{}, 0
		work := func() {
			defer func() { table["left"] = 1 }()
			number = 3
			list[0] = 4
			table["done"] = 5
			way.f()
			number = 6
		}
		for _, call := range []func(){
			func() { Catch(work) },
			func() { Try(func() (string, error) { work(); return "", nil }) },
		} {
			number, list[0] = 0, 1
			clear(table)
			call()
			if number != 3 || list[0] != 4 || table["done"] != 5 || table["left"] != 1 {
				t.Errorf("%s: %d, %v, %v", way.name, number, list, table)
			}
		}
	}
}

// P5.1: a panic comes through all calls between.
func TestARaiseFarDown(t *testing.T) {
	var down func(n int, end func())
	down = func(n int, end func()) {
		if n == 0 {
			end()
			return
		}
		defer func() {}()
		down(n-1, end)
	}
	for _, n := range []int{0, 1, 10, 1000} {
		same(t, "raised", Catch(func() { down(n, func() { Raise(api.ErrName) }) }), api.ErrName)
		same(t, "in another way", Catch(func() { down(n, func() { panic(n) }) }), api.ErrBroken)
		same(t, "not at all", Catch(func() { down(n, func() {}) }), nil)
	}
}

// P5.1
func TestTheInnermostCatchAloneAnswers(t *testing.T) {
	ways := append(others(), another{"raised", func() { Raise(api.ErrBroken) }})
	for _, way := range ways {
		var inner error
		behind := false
		outer := Catch(func() {
			inner = Catch(way.f)
			behind = true
		})
		same(t, "the inner one, "+way.name, inner, api.ErrBroken)
		same(t, "the outer one, "+way.name, outer, nil)
		if !behind {
			t.Errorf("%s: what stands behind the inner one isn't done", way.name)
		}
	}
	var inner error
	outer := Catch(func() { inner = Catch(func() { Raise(api.ErrLimit) }) })
	same(t, "the inner one", inner, api.ErrLimit)
	same(t, "the outer one", outer, nil)
}

// P5.1
func TestTheOuterCatchAnswersWhatComesBehindTheInnerOne(t *testing.T) {
	var inner error
	one := func() { inner = Catch(func() { Raise(api.ErrLimit) }) }
	same(t, "raised again", Catch(func() { one(); Raise(inner) }), api.ErrLimit)
	same(t, "another one raised", Catch(func() { one(); Raise(api.ErrDup) }), api.ErrDup)
	same(t, "in another way", Catch(func() { one(); panic(inner) }), api.ErrBroken)
	same(t, "ahead of the inner one", Catch(func() { Raise(api.ErrKind); one() }), api.ErrKind)
	same(t, "no function for the inner one", Catch(func() { Raise(Catch(nil)) }), api.ErrEmpty)
	two := Catch(func() {
		one()
		same(t, "the second inner one", Catch(func() { panic(1) }), api.ErrBroken)
		one()
	})
	same(t, "two inner ones", two, nil)
}

// P5.1
func TestManyCatchesInOneAnother(t *testing.T) {
	const deep = 40
	for at := range deep {
		var answers []error
		var nest func(n int)
		nest = func(n int) {
			if n == deep {
				Raise(api.ErrForm)
			}
			err := Catch(func() { nest(n + 1) })
			answers = append(answers, err)
			if n > at {
				Raise(err) // handed on, up to one of the middle
			}
		}
		nest(0)
		// The innermost one is the first to answer.
		for i, err := range answers {
			want := error(nil)
			if deep-1-i >= at {
				want = api.ErrForm
			}
			same(t, "nested "+strconv.Itoa(deep-1-i)+", handed on up to "+strconv.Itoa(at), err, want)
		}
		if len(answers) != deep {
			t.Fatalf("%d answers", len(answers))
		}
	}
}

// P5.1
func TestTryAnswersWhatItsFunctionDoes(t *testing.T) {
	tries(t, 7, 0)
	tries(t, "text", "")
	tries(t, 2.5, 0)
	tries(t, true, false)
	tries(t, [2]int{1, 2}, [2]int{})
	tries(t, api.Entry{Key: 1, Val: 2, Hash: 3}, api.Entry{})
	tries(t, &around{}, nil)
	tries[any](t, "text", nil)
	tries[error](t, api.ErrDup, nil)
}

// tries wants a value, and its type's zero value.
func tries[T comparable](t *testing.T, v, none T) {
	t.Helper()
	triesOne(t, "no error", func() (T, error) { return v, nil }, v, nil)
	triesOne(t, "the zero value without an error", func() (T, error) { return none, nil }, none, nil)
	for _, err := range append(theErrors(), error(&around{"near", api.ErrFull})) {
		triesOne(t, "an error with a value", func() (T, error) { return v, err }, none, err)
		triesOne(t, "an error with the zero value", func() (T, error) { return none, err }, none, err)
		triesOne(t, "raised", func() (T, error) { Raise(err); return v, nil }, none, err)
		triesOne(t, "raised by Must", func() (T, error) { return Must(v, err), nil }, none, err)
		triesOne(t, "not raised", func() (T, error) { panic(err) }, none, api.ErrBroken)
		triesOne(t, "raised behind the results", func() (r T, told error) {
			defer func() { Raise(err) }()
			return v, nil
		}, none, err)
		triesOne(t, "raised behind results with an error", func() (r T, told error) {
			defer func() { Raise(err) }()
			return v, api.ErrNone
		}, none, err)
	}
	triesOne(t, "needed", func() (T, error) { Need(false); return v, nil }, none, api.ErrBroken)
	triesOne(t, "in another way behind the results", func() (r T, told error) {
		defer func() { panic("text") }()
		return v, api.ErrNone
	}, none, api.ErrBroken)
}

func triesOne[T comparable](t *testing.T, what string, f func() (T, error), want T, wantErr error) {
	t.Helper()
	got, err := Try(f)
	if got != want {
		t.Errorf("Try, %s: the value is %v, not %v", what, got, want)
	}
	same(t, "Try, "+what, err, wantErr)
}

// P5.1: lists and functions, which can't be compared.
func TestTryOfListsAndFunctions(t *testing.T) {
	list := []int{1, 2, 3}
	got, err := Try(func() ([]int, error) { return list, nil })
	if err != nil || len(got) != 3 || &got[0] != &list[0] {
		t.Errorf("a list: %v, %v", got, err)
	}
	got, err = Try(func() ([]int, error) { return list, api.ErrFull })
	if got != nil || err != api.ErrFull {
		t.Errorf("a list with an error: %v, %v", got, err)
	}
	got, err = Try(func() ([]int, error) { return list, Catch(func() { Raise(api.ErrFull) }) })
	if got != nil || err != api.ErrFull {
		t.Errorf("a list with an error that was caught: %v, %v", got, err)
	}
	f, err := Try(func() (func() int, error) { return func() int { return 9 }, nil })
	if err != nil || f == nil || f() != 9 {
		t.Errorf("a function: %v", err)
	}
	f, err = Try(func() (func() int, error) { return func() int { return 9 }, api.ErrNone })
	if err != api.ErrNone || f != nil {
		t.Errorf("a function with an error: %v", err)
	}
}

// P5.1
func TestTheInnermostTryAloneAnswers(t *testing.T) {
	for _, other := range others() {
		outer, err := Try(func() (string, error) {
			v, err := Try(func() (int, error) { other.f(); return 7, nil })
			if v != 0 {
				t.Errorf("the inner one, %s: the value is %d", other.name, v)
			}
			same(t, "the inner one, "+other.name, err, api.ErrBroken)
			return "text", nil
		})
		if outer != "text" {
			t.Errorf("the outer one, %s: the value is %q", other.name, outer)
		}
		same(t, "the outer one, "+other.name, err, nil)
	}
	raise := func() (int, error) { Raise(api.ErrLimit); return 7, nil }
	tell := func() (int, error) { return 7, api.ErrLimit }
	for _, f := range []func() (int, error){raise, tell} {
		triesOne(t, "the inner one's error, told as a value", func() (error, error) { _, err := Try(f); return err, nil }, api.ErrLimit, nil)
		triesOne(t, "the inner one's results handed on", func() (int, error) { return Try(f) }, 0, api.ErrLimit)
		triesOne(t, "the inner one's error raised", func() (int, error) { return Must(Try(f)), nil }, 0, api.ErrLimit)
		triesOne(t, "another one raised behind it", func() (int, error) { Try(f); Raise(api.ErrName); return 7, nil }, 0, api.ErrName)
		triesOne(t, "another way behind it", func() (int, error) { Try(f); panic(api.ErrName) }, 0, api.ErrBroken)
		triesOne(t, "nothing behind it", func() (int, error) { Try(f); return 8, nil }, 8, nil)
	}
	triesOne(t, "no function for the inner one", func() (int, error) { return Try[int](nil) }, 0, api.ErrEmpty)
}

// P5.1
func TestATryInACatchAndACatchInATry(t *testing.T) {
	same(t, "a Try in a Catch", Catch(func() {
		v, err := Try(func() (int, error) { Raise(api.ErrHash); return 7, nil })
		if v != 0 {
			t.Errorf("the value is %d", v)
		}
		same(t, "the Try", err, api.ErrHash)
	}), nil)
	triesOne(t, "a Catch in a Try", func() (int, error) {
		same(t, "the Catch", Catch(func() { Raise(api.ErrHash) }), api.ErrHash)
		return 7, nil
	}, 7, nil)
	same(t, "a Try's error, raised in a Catch", Catch(func() {
		Must(Try(func() (int, error) { return 7, api.ErrHash }))
	}), api.ErrHash)
}

// P5.1: the last panic is the one that is answered.
func TestAPanicInAPanic(t *testing.T) {
	for _, c := range []struct {
		what        string
		first, then func()
		want        error
	}{
		{"raised, then raised", func() { Raise(api.ErrFull) }, func() { Raise(api.ErrName) }, api.ErrName},
		{"raised, then another way", func() { Raise(api.ErrFull) }, func() { panic("text") }, api.ErrBroken},
		{"another way, then raised", func() { panic("text") }, func() { Raise(api.ErrName) }, api.ErrName},
		{"raised, then nil raised", func() { Raise(api.ErrFull) }, func() { Raise(nil) }, api.ErrFull},
		{"nothing, then raised", func() {}, func() { Raise(api.ErrName) }, api.ErrName},
		{"raised, and recovered", func() { Raise(api.ErrFull) }, nil, nil},
		{"another way, and recovered", func() { panic("text") }, nil, nil},
	} {
		work := func() {
			defer func() {
				if c.then == nil {
					recover()
					return
				}
				c.then()
			}()
			c.first()
		}
		same(t, "Catch, "+c.what, Catch(work), c.want)
		triesOne(t, c.what, func() (int, error) { work(); return 0, nil }, 0, c.want)
	}
}

// P5.1: what is caught while a panic is under way is an inner panic alone.
func TestACatchThatIsDoneDuringAPanicEndsNoOtherOne(t *testing.T) {
	for _, inner := range []another{
		{"comes back", func() {}},
		{"raises", func() { Raise(api.ErrName) }},
		{"panics in another way", func() { panic("text") }},
	} {
		same(t, "deferred, "+inner.name, Catch(func() {
			defer Catch(inner.f)
			Raise(api.ErrFull)
		}), api.ErrFull)
		same(t, "in a deferred function, "+inner.name, Catch(func() {
			defer func() { Catch(inner.f) }()
			Raise(api.ErrFull)
		}), api.ErrFull)
		same(t, "a Try, deferred, "+inner.name, Catch(func() {
			defer Try(func() (int, error) { inner.f(); return 7, nil })
			Raise(api.ErrFull)
		}), api.ErrFull)
	}
	same(t, "no function", Catch(func() {
		defer Catch(nil)
		Raise(api.ErrFull)
	}), api.ErrFull)
}

// P5.1: nothing is kept from call to call.
func TestACallThatFollowsAPanicIsLikeTheFirst(t *testing.T) {
	work := []struct {
		f    func()
		want error
	}{
		{func() {}, nil},
		{func() { Raise(api.ErrForm) }, api.ErrForm},
		{func() { panic(1) }, api.ErrBroken},
		{func() { Need(false) }, api.ErrBroken},
		{func() { Must(1, api.ErrLong) }, api.ErrLong},
		{nil, api.ErrEmpty},
	}
	for i, a := range work {
		for j, b := range work {
			what := strconv.Itoa(i) + " then " + strconv.Itoa(j)
			same(t, "the first of "+what, Catch(a.f), a.want)
			same(t, "the second of "+what, Catch(b.f), b.want)
		}
	}
}
