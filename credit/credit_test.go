package credit

import (
	"math"
	"math/big"
	"strconv"
	"testing"

	"ambler/api"
)

// The tests hold each call against a slow ledger: its numbers have no bound, its floats are read as bits, and its parts are fractions, which are rounded by the library's own rounding of fractions.

const most = api.MaxCount

// The edges of the floats, by their bits, so that they aren't taken from what is tested.
var (
	leastAbove0 = math.Float64frombits(1)
	below1      = math.Float64frombits(0x3fefffffffffffff)
	above1      = math.Float64frombits(0x3ff0000000000001)
	belowMost   = math.Float64frombits(0x426fffffffffffff)
	aboveMost   = math.Float64frombits(0x4270000000000001)
	minusNone   = math.Float64frombits(1 << 63)
)

// slow is a ledger of numbers without bound.
type slow struct {
	balance *big.Int
	rest    *big.Rat
}

func newSlow() *slow { return &slow{new(big.Int), new(big.Rat)} }

func number(n int) *big.Int { return big.NewInt(int64(n)) }

// exactly is a float above 0 as a fraction, out of its bits; nil for what is none: NaN, 0 and what is below. Infinity is a number above all.
func exactly(f float64) *big.Rat {
	bits := math.Float64bits(f)
	exponent, figures := int(bits>>52&0x7ff), int64(bits&(1<<52-1))
	switch {
	case bits>>63 == 1, exponent == 0x7ff && figures != 0, exponent == 0 && figures == 0:
		return nil
	case exponent == 0:
		exponent = 1 // the least floats stand at the same place as those of exponent 1, without the 1 ahead
	default:
		figures |= 1 << 52
	}
	scaled := new(big.Int).Lsh(big.NewInt(figures), uint(exponent))
	return new(big.Rat).SetFrac(scaled, new(big.Int).Lsh(big.NewInt(1), 1023+52))
}

// whole is how many whole ones, and which part is left.
func whole(f float64) (*big.Int, *big.Rat) {
	all := exactly(f)
	if all == nil {
		return new(big.Int), new(big.Rat)
	}
	if all.Cmp(new(big.Rat).SetInt(number(most))) >= 0 {
		return number(most), new(big.Rat)
	}
	ones := new(big.Int).Quo(all.Num(), all.Denom())
	return ones, new(big.Rat).Sub(all, new(big.Rat).SetInt(ones))
}

func rounded(r *big.Rat) float64 {
	f, _ := r.Float64()
	return f
}

// within is a number, 0 and greatest at the ends.
func within(n, greatest *big.Int) *big.Int {
	if n.Sign() < 0 {
		return new(big.Int)
	}
	if n.Cmp(greatest) > 0 {
		return new(big.Int).Set(greatest)
	}
	return new(big.Int).Set(n)
}

func (s *slow) deposit(n *big.Int) int {
	room := new(big.Int).Sub(number(most), s.balance)
	kept := within(n, room)
	s.balance.Add(s.balance, kept)
	return int(kept.Int64())
}

func (s *slow) earn(f float64) int {
	ones, part := whole(f)
	together := rounded(new(big.Rat).Add(part, s.rest))
	s.rest.SetFloat64(together)
	if one := big.NewRat(1, 1); s.rest.Cmp(one) >= 0 {
		s.rest.Sub(s.rest, one)
		ones = new(big.Int).Add(ones, number(1))
	}
	return s.deposit(ones)
}

func (s *slow) spend(n int) bool {
	if n < 0 || number(n).Cmp(s.balance) > 0 {
		return false
	}
	s.balance.Sub(s.balance, number(n))
	return true
}

func (s *slow) take(n int) int {
	taken := within(number(n), s.balance)
	s.balance.Sub(s.balance, taken)
	return int(taken.Int64())
}

func (s *slow) drop() int {
	gone := int(s.balance.Int64())
	s.balance.SetInt64(0)
	s.rest.SetInt64(0)
	return gone
}

// both is a ledger and a slow one of which each is given what the other one is.
type both struct {
	t    *testing.T
	what string
	l    *Ledger
	s    *slow
}

func newBoth(t *testing.T, what string) *both { return &both{t, what, &Ledger{}, newSlow()} }

func (b *both) deposit(n int) {
	b.t.Helper()
	same(b.t, b.what+", deposit "+strconv.Itoa(n), b.l.Deposit(n), b.s.deposit(number(n)))
	b.hold()
}

func (b *both) earn(f float64) {
	b.t.Helper()
	same(b.t, b.what+", earn "+text(f), b.l.Earn(f), b.s.earn(f))
	b.hold()
}

func (b *both) spend(n int) {
	b.t.Helper()
	same(b.t, b.what+", spend "+strconv.Itoa(n), b.l.Spend(n), b.s.spend(n))
	b.hold()
}

func (b *both) take(n int) {
	b.t.Helper()
	same(b.t, b.what+", take "+strconv.Itoa(n), b.l.Take(n), b.s.take(n))
	b.hold()
}

func (b *both) drop() {
	b.t.Helper()
	same(b.t, b.what+", drop", b.l.Drop(), b.s.drop())
	b.hold()
}

func (b *both) hold() {
	b.t.Helper()
	has(b.t, b.what, b.l, int(b.s.balance.Int64()), rounded(b.s.rest))
}

func text(f float64) string { return strconv.FormatFloat(f, 'g', -1, 64) }

func same[T comparable](t *testing.T, what string, got, want T) {
	t.Helper()
	if got != want {
		t.Fatalf("%s: %v, not %v", what, got, want)
	}
}

// sameFloat asks for the bits, so that -0 isn't taken for 0.
func sameFloat(t *testing.T, what string, got, want float64) {
	t.Helper()
	if math.Float64bits(got) != math.Float64bits(want) {
		t.Fatalf("%s: %s, not %s", what, text(got), text(want))
	}
}

func has(t *testing.T, what string, l *Ledger, balance int, rest float64) {
	t.Helper()
	same(t, what+", balance", l.Balance(), balance)
	sameFloat(t, what+", rest", l.Rest(), rest)
}

// ledger is one with a balance and a rest.
func ledger(t *testing.T, balance int, rest float64) *Ledger {
	t.Helper()
	l := &Ledger{}
	l.Deposit(balance)
	l.Earn(rest)
	has(t, "a new ledger", l, balance, rest)
	return l
}

// numbers gives the edges of what a call may be given.
func numbers() []int {
	return []int{
		math.MinInt, math.MinInt + 1, math.MinInt32, -most - 1, -most, -2, -1, 0, 1, 2, 3, 7, 1000, 1 << 31,
		most/2 - 1, most / 2, most - 2, most - 1, most, most + 1, 2 * most, math.MaxInt - most, math.MaxInt - 1, math.MaxInt,
	}
}

// floats gives the edges of what Whole and Earn may be given.
func floats() []float64 {
	return []float64{
		math.NaN(), math.Float64frombits(0x7ff0000000000001), math.Float64frombits(0xfff8000000000001), math.Float64frombits(0xffffffffffffffff), math.Float64frombits(0x7fffffffffffffff),
		math.Inf(1), math.Inf(-1), 0, minusNone,
		-leastAbove0, -below1, -1, -above1, -1.5, -2, -1e300, -math.MaxFloat64, -most, -belowMost, math.MinInt64,
		leastAbove0, 2 * leastAbove0, math.Float64frombits(0x000fffffffffffff), math.Float64frombits(0x0010000000000000),
		0x1p-54, 0x1p-53, 0x1p-52, 0.1, 0.25, 1.0 / 3, 0.5, 0.75, 1 - 0x1p-52, below1,
		1, above1, 1.5, 1.9999999999999998, 2, 2.5, 3, 7, 7.125, 1e6, 1e6 + 0.3, 1 << 31, 1<<31 + 0.5, 1<<32 + 0.25,
		most/2 - 0.5, most / 2, most - 1, most - 1 + 0.5, most - 0.5, belowMost,
		most, aboveMost, most + 1, most + 1.5, 2 * most, 1 << 53, 1 << 62, 1 << 63, 1 << 64, 1e300, math.MaxFloat64,
	}
}

// P7.1
func TestTheExample(t *testing.T) {
	l := &Ledger{}
	same(t, "0.75", l.Earn(0.75), 0)
	has(t, "once", l, 0, 0.75)
	same(t, "0.75 again", l.Earn(0.75), 1)
	has(t, "twice", l, 1, 0.5)
}

// P7.1
func TestTheZeroLedger(t *testing.T) {
	var l Ledger
	has(t, "none", &l, 0, 0)
	same(t, "spend 0", l.Spend(0), true)
	same(t, "spend 1", l.Spend(1), false)
	same(t, "spend the greatest number", l.Spend(math.MaxInt), false)
	same(t, "take 0", l.Take(0), 0)
	same(t, "take 1", l.Take(1), 0)
	same(t, "take the greatest number", l.Take(math.MaxInt), 0)
	same(t, "drop", l.Drop(), 0)
	same(t, "deposit 0", l.Deposit(0), 0)
	same(t, "earn 0", l.Earn(0), 0)
	has(t, "none still", &l, 0, 0)
	same(t, "deposit", l.Deposit(2), 2)
	has(t, "two", &l, 2, 0)
	has(t, "another one", &Ledger{}, 0, 0)
}

// P7.1
func TestDeposit(t *testing.T) {
	l := &Ledger{}
	sum := 0
	for n := range 100 {
		same(t, "deposit "+strconv.Itoa(n), l.Deposit(n), n)
		sum += n
		has(t, "deposited "+strconv.Itoa(n), l, sum, 0)
	}
	for _, n := range []int{0, -1, -2, -sum, -most, -most - 1, math.MinInt32, math.MinInt + 1, math.MinInt} {
		same(t, "deposit "+strconv.Itoa(n), l.Deposit(n), 0)
		has(t, "deposited "+strconv.Itoa(n), l, sum, 0)
	}
	kept := ledger(t, 3, 0.375)
	same(t, "beside a rest", kept.Deposit(4), 4)
	has(t, "beside a rest", kept, 7, 0.375)
}

// P7.1: a balance that comes to MaxCount stays there, and what is more is lost.
func TestDepositUpToMaxCount(t *testing.T) {
	for _, c := range []struct{ had, n, kept int }{
		{0, most - 1, most - 1}, {0, most, most}, {0, most + 1, most}, {0, 2 * most, most}, {0, math.MaxInt, most},
		{1, most - 2, most - 2}, {1, most - 1, most - 1}, {1, most, most - 1}, {1, math.MaxInt, most - 1}, {1, math.MaxInt - 1, most - 1},
		{most - 2, 1, 1}, {most - 2, 2, 2}, {most - 2, 3, 2}, {most - 2, math.MaxInt, 2},
		{most - 1, 0, 0}, {most - 1, 1, 1}, {most - 1, 2, 1}, {most - 1, -1, 0}, {most - 1, math.MinInt, 0}, {most - 1, math.MaxInt, 1}, {most - 1, math.MaxInt - most, 1}, {most - 1, math.MaxInt - most + 1, 1}, {most - 1, math.MaxInt - most + 2, 1},
		{most, 0, 0}, {most, 1, 0}, {most, most, 0}, {most, math.MaxInt, 0}, {most, math.MaxInt - most, 0}, {most, math.MaxInt - most + 1, 0}, {most, -1, 0}, {most, -most, 0}, {most, math.MinInt, 0},
	} {
		what := strconv.Itoa(c.had) + " and " + strconv.Itoa(c.n)
		l := ledger(t, c.had, 0.5)
		same(t, what, l.Deposit(c.n), c.kept)
		has(t, what, l, c.had+c.kept, 0.5)
	}
	l := ledger(t, most, 0.25)
	same(t, "spend behind what was lost", l.Deposit(9) == 0 && l.Spend(4), true)
	same(t, "there is room again", l.Deposit(9), 4)
	has(t, "full again", l, most, 0.25)
}

// P7.1
func TestSpend(t *testing.T) {
	for _, had := range []int{0, 1, 2, 9, 1000, 1 << 31, most - 1, most} {
		for _, c := range []struct {
			n  int
			is bool
		}{
			{0, true}, {1, had >= 1}, {2, had >= 2}, {had, true}, {had / 2, true}, {had + 1, false}, {had + 2, false}, {2*had + 1, false}, {math.MaxInt, false}, {math.MaxInt - 1, false}, {most + 1, false},
			{-1, false}, {-2, false}, {-had - 1, false}, {-most, false}, {math.MinInt + 1, false}, {math.MinInt, false},
		} {
			what := "of " + strconv.Itoa(had) + " spend " + strconv.Itoa(c.n)
			l := ledger(t, had, 0.625)
			same(t, what, l.Spend(c.n), c.is)
			left := had
			if c.is {
				left -= c.n
			}
			has(t, what, l, left, 0.625)
		}
	}
	l := ledger(t, 3, 0.75)
	same(t, "three, one by one", l.Spend(1) && l.Spend(1) && l.Spend(1), true)
	same(t, "a part is no credit", l.Spend(1), false)
	has(t, "spent", l, 0, 0.75)
}

// P7.1
func TestTake(t *testing.T) {
	for _, had := range []int{0, 1, 2, 9, 1000, 1 << 31, most - 1, most} {
		for _, c := range []struct{ n, taken int }{
			{0, 0}, {1, min(1, had)}, {had, had}, {had / 2, had / 2}, {had - 1, max(0, had-1)}, {had + 1, had}, {had + 2, had}, {2*had + 1, had}, {most, had}, {math.MaxInt - 1, had}, {math.MaxInt, had},
			{-1, 0}, {-2, 0}, {-had - 1, 0}, {-most, 0}, {math.MinInt + 1, 0}, {math.MinInt, 0},
		} {
			what := "of " + strconv.Itoa(had) + " take " + strconv.Itoa(c.n)
			l := ledger(t, had, 0.625)
			same(t, what, l.Take(c.n), c.taken)
			has(t, what, l, had-c.taken, 0.625)
		}
	}
	l := ledger(t, 5, 0.75)
	same(t, "first", l.Take(2), 2)
	same(t, "then", l.Take(2), 2)
	same(t, "at last", l.Take(2), 1)
	same(t, "a part is no credit", l.Take(2), 0)
	has(t, "taken", l, 0, 0.75)
}

// P7.1
func TestDrop(t *testing.T) {
	for _, had := range []int{0, 1, 9, most - 1, most} {
		for _, rest := range []float64{0, leastAbove0, 0.5, below1} {
			what := "of " + strconv.Itoa(had) + " and " + text(rest) + " drop"
			l := ledger(t, had, rest)
			same(t, what, l.Drop(), had)
			has(t, what, l, 0, 0)
			same(t, what+" again", l.Drop(), 0)
			same(t, what+", then a part", l.Earn(below1), 0)
			has(t, what+", then a part", l, 0, below1)
			same(t, what+", then the greatest", l.Deposit(most), most)
		}
	}
}

// P7.1
func TestWhole(t *testing.T) {
	for _, c := range []struct {
		f    float64
		ones int
		part float64
	}{
		{math.NaN(), 0, 0}, {math.Float64frombits(0x7ff0000000000001), 0, 0}, {math.Float64frombits(0xffffffffffffffff), 0, 0},
		{math.Inf(-1), 0, 0}, {-math.MaxFloat64, 0, 0}, {-most, 0, 0}, {-1.5, 0, 0}, {-1, 0, 0}, {-0.5, 0, 0}, {-below1, 0, 0}, {-leastAbove0, 0, 0},
		{0, 0, 0}, {minusNone, 0, 0},
		{leastAbove0, 0, leastAbove0}, {0x1p-1022, 0, 0x1p-1022}, {0.1, 0, 0.1}, {0.5, 0, 0.5}, {below1, 0, below1},
		{1, 1, 0}, {above1, 1, 0x1p-52}, {1.5, 1, 0.5}, {1.9999999999999998, 1, 1 - 0x1p-52}, {2, 2, 0}, {2.75, 2, 0.75}, {3, 3, 0}, {1000.125, 1000, 0.125},
		{1 << 31, 1 << 31, 0}, {1<<31 + 0.5, 1 << 31, 0.5}, {1<<32 - 0.25, 1<<32 - 1, 0.75}, {1 << 39, 1 << 39, 0},
		{most - 1, most - 1, 0}, {most - 0.5, most - 1, 0.5}, {belowMost, most - 1, 1 - 0x1p-13},
		{most, most, 0}, {aboveMost, most, 0}, {most + 0.5, most, 0}, {most + 1, most, 0}, {2 * most, most, 0}, {1 << 63, most, 0}, {1 << 64, most, 0}, {math.MaxFloat64, most, 0}, {math.Inf(1), most, 0},
	} {
		ones, part := Whole(c.f)
		same(t, text(c.f), ones, c.ones)
		sameFloat(t, text(c.f)+", what is left", part, c.part)
	}
}

// P7.1: all exponents, below 0 and above, with few figures and with many; and each whole number's neighbours.
func TestWholeOfManyFloats(t *testing.T) {
	next := some()
	asked := append([]float64{}, floats()...)
	for exponent := range uint64(0x800) {
		for _, figures := range []uint64{0, 1, 1 << 51, 1<<52 - 1, next(1 << 52), next(1 << 52)} {
			f := math.Float64frombits(exponent<<52 | figures)
			asked = append(asked, f, -f)
		}
	}
	for power := range 43 {
		two := math.Ldexp(1, power)
		for _, n := range []float64{two - 1, two, two + 1} {
			asked = append(asked, math.Nextafter(n, 0), n, math.Nextafter(n, math.Inf(1)))
		}
	}
	for _, f := range asked {
		wantOnes, wantPart := whole(f)
		ones, part := Whole(f)
		same(t, text(f), ones, int(wantOnes.Int64()))
		sameFloat(t, text(f)+", what is left", part, rounded(wantPart))
		if !(part >= 0 && part < 1) {
			t.Fatalf("%s: %s is left", text(f), text(part))
		}
	}
}

// P7.1: of each of the edges, without a rest, with one, and at a balance near MaxCount.
func TestEarn(t *testing.T) {
	for _, f := range floats() {
		for _, had := range []int{0, 1, most - 2, most - 1, most} {
			for _, rest := range []float64{0, leastAbove0, 0.25, 0.5, below1} {
				b := newBoth(t, "of "+strconv.Itoa(had)+" and "+text(rest))
				b.deposit(had)
				b.earn(rest)
				b.earn(f)
				b.earn(f)
				b.earn(0.5)
			}
		}
	}
}

// P7.1
func TestEarnOfWhatIsNoNumberAboveNone(t *testing.T) {
	for _, f := range []float64{math.NaN(), math.Float64frombits(0xffffffffffffffff), math.Inf(-1), -math.MaxFloat64, -1, -0.5, -leastAbove0, minusNone, 0} {
		l := &Ledger{}
		same(t, text(f), l.Earn(f), 0)
		has(t, text(f), l, 0, 0)
		l = ledger(t, 5, 0.75)
		same(t, text(f), l.Earn(f), 0)
		has(t, text(f), l, 5, 0.75)
	}
}

// P7.1: rests that together are below 1, just 1, and more; where the sum of two floats is rounded, the rounded one counts.
func TestRestsTogether(t *testing.T) {
	for _, c := range []struct {
		first, second float64
		credits       int
		rest          float64
	}{
		{0.25, 0.5, 0, 0.75}, {0.5, 0.5, 1, 0}, {0.75, 0.5, 1, 0.25},
		{0.5, 0.5 - 0x1p-53, 0, below1}, {0.5, 0.5 - 0x1p-54, 1, 0}, {0.5, 0.5 + 0x1p-52, 1, 0x1p-52},
		{below1, leastAbove0, 0, below1}, {below1, 0x1p-55, 0, below1}, {below1, 0x1p-54, 1, 0}, {below1, 0x1p-53, 1, 0}, {below1, 0x1p-52, 1, 0}, {below1, 0x1.8p-52, 1, 0x1p-52}, {below1, 0x1p-51, 1, 0x1p-51},
		{below1, 0.5, 1, 0.5}, {below1, below1, 1, 1 - 0x1p-52},
		{leastAbove0, leastAbove0, 0, 2 * leastAbove0}, {0.1, 0.2, 0, 0.30000000000000004}, {0.9, 0.2, 1, 0.10000000000000009}, {0, below1, 0, below1},
	} {
		for _, whole := range []float64{0, 1, 5} {
			for _, way := range [][2]float64{{c.first, c.second}, {c.second, c.first}} {
				second := whole + way[1]
				if second-whole != way[1] {
					continue // beside a whole one the part has other figures
				}
				what := text(way[0]) + " and " + text(second)
				l := &Ledger{}
				same(t, what+", first", l.Earn(way[0]), 0)
				same(t, what, l.Earn(second), int(whole)+c.credits)
				has(t, what, l, int(whole)+c.credits, c.rest)
			}
		}
	}
}

// P7.1: many small parts, one behind another.
func TestManyParts(t *testing.T) {
	for _, f := range []float64{0.1, 0.2, 0.3, 1.0 / 3, 2.0 / 3, 0.7, 0.9, 0.999, below1, 0.5, 0.125, 1.1, 3.7, 1000.001, 0x1p-40, leastAbove0} {
		b := newBoth(t, "many of "+text(f))
		for range 500 {
			b.earn(f)
		}
	}
	eighths := &Ledger{}
	for i := 1; i <= 800; i++ {
		earned := 0
		if i%8 == 0 {
			earned = 1
		}
		same(t, "an eighth", eighths.Earn(0.125), earned)
		has(t, "eighths", eighths, i/8, float64(i%8)/8)
	}
}

// P7.1: at MaxCount credits are lost, but the rest goes on.
func TestEarnAtMaxCount(t *testing.T) {
	for _, c := range []struct {
		had     int
		rest, f float64
		kept    int
		left    float64
	}{
		{most, 0, 0.75, 0, 0.75}, {most, 0.75, 0.75, 0, 0.5}, {most, 0.5, 0.5, 0, 0}, {most, 0.5, 7.25, 0, 0.75}, {most, 0.5, 7.75, 0, 0.25}, {most, 0.5, math.Inf(1), 0, 0.5}, {most, 0.5, most, 0, 0.5}, {most, 0.5, math.NaN(), 0, 0.5}, {most, 0, 1, 0, 0},
		{most - 1, 0.75, 0.75, 1, 0.5}, {most - 1, 0.25, 1.25, 1, 0.5}, {most - 1, 0.75, 1.75, 1, 0.5}, {most - 1, 0.75, 2.75, 1, 0.5}, {most - 1, 0.5, math.Inf(1), 1, 0.5}, {most - 1, 0.5, belowMost, 1, 0.5 - 0x1p-13}, {most - 1, 0, 0.5, 0, 0.5},
		{most - 2, 0.75, 1.75, 2, 0.5}, {most - 2, 0.25, 1.25, 1, 0.5}, {most - 2, 0.75, 2.75, 2, 0.5},
		{1, 0.5, belowMost, most - 1, 0.5 - 0x1p-13}, {1, 0.5, most - 0.5, most - 1, 0}, {0, 0.5, most - 0.5, most, 0}, {0, 0.25, most - 0.5, most - 1, 0.75}, {0, 0.5, math.Inf(1), most, 0.5}, {0, 0.5, most, most, 0.5}, {1, 0.5, most, most - 1, 0.5},
	} {
		what := "of " + strconv.Itoa(c.had) + " and " + text(c.rest) + " earn " + text(c.f)
		l := ledger(t, c.had, c.rest)
		same(t, what, l.Earn(c.f), c.kept)
		has(t, what, l, c.had+c.kept, c.left)
	}
}

// P7.1: asking changes nothing, and a ledger that is copied is another one.
func TestAskingAndCopying(t *testing.T) {
	l := ledger(t, 6, 0.5)
	for range 3 {
		has(t, "asked", l, 6, 0.5)
	}
	other := *l
	same(t, "equal", other == *l, true)
	other.Spend(2)
	other.Earn(0.25)
	has(t, "the one that was copied", l, 6, 0.5)
	has(t, "the copy", &other, 4, 0.75)
}

// some gives numbers without a pattern.
func some() func(below uint64) uint64 {
	x := uint64(88172645463325252)
	return func(below uint64) uint64 {
		x ^= x << 13
		x ^= x >> 7
		x ^= x << 17
		return x >> 11 % below
	}
}

// P7.1: each order of so many calls out of all kinds.
func TestEveryOrderOfFewCalls(t *testing.T) {
	calls := []func(b *both){
		func(b *both) { b.deposit(1) },
		func(b *both) { b.deposit(-1) },
		func(b *both) { b.deposit(most - 1) },
		func(b *both) { b.earn(0.75) },
		func(b *both) { b.earn(2.5) },
		func(b *both) { b.earn(math.NaN()) },
		func(b *both) { b.spend(1) },
		func(b *both) { b.spend(-1) },
		func(b *both) { b.take(2) },
		func(b *both) { b.drop() },
	}
	const long = 4
	orders := 1
	for range long {
		orders *= len(calls)
	}
	for order := range orders {
		b := newBoth(t, "order "+strconv.Itoa(order))
		left := order
		for range long {
			calls[left%len(calls)](b)
			left /= len(calls)
		}
	}
}

// someFloat is an edge, a small number with a part, or any bits.
func someFloat(next func(uint64) uint64) float64 {
	edges := floats()
	switch next(4) {
	case 0:
		return edges[next(uint64(len(edges)))]
	case 1:
		return math.Float64frombits(next(1<<32)<<32 | next(1<<32))
	case 2:
		return float64(next(1<<20)) / 0x1p17
	}
	return float64(next(1<<50)) / 0x1p50
}

// P7.1: long orders, of several ledgers in turns.
func TestLongOrders(t *testing.T) {
	next := some()
	ledgers := []*both{newBoth(t, "first"), newBoth(t, "second"), newBoth(t, "third")}
	edges := numbers()
	amount := func() int {
		if next(3) == 0 {
			return edges[next(uint64(len(edges)))]
		}
		return int(next(60)) - 5
	}
	for range 30000 {
		b := ledgers[next(3)]
		switch next(12) {
		case 0, 1, 2:
			b.deposit(amount())
		case 3, 4, 5, 6:
			b.earn(someFloat(next))
		case 7, 8:
			b.spend(amount())
		case 9, 10:
			b.take(amount())
		case 11:
			if next(8) == 0 {
				b.drop()
			}
		}
		for _, each := range ledgers {
			each.hold()
		}
	}
}

// P7.2: asked of the answers alone.
func TestWhatWasNotLostIsSpentOrLeft(t *testing.T) {
	next := some()
	l := &Ledger{}
	edges := numbers()
	kept, spent, full := new(big.Int), new(big.Int), 0
	for range 60000 {
		n := int(next(40)) - 4
		if next(6) == 0 {
			n = edges[next(uint64(len(edges)))]
		}
		switch next(9) {
		case 0, 1:
			kept.Add(kept, number(l.Deposit(n)))
		case 2, 3, 4:
			kept.Add(kept, number(l.Earn(someFloat(next))))
		case 5, 6:
			if l.Spend(n) {
				spent.Add(spent, number(n))
			}
		case 7:
			spent.Add(spent, number(l.Take(n)))
		case 8:
			if next(5) == 0 {
				spent.Add(spent, number(l.Drop()))
			}
		}
		if left := new(big.Int).Sub(kept, spent); left.Cmp(number(l.Balance())) != 0 {
			t.Fatalf("%v are left, not %d", left, l.Balance())
		}
		if l.Balance() < 0 || l.Balance() > most || !(l.Rest() >= 0 && l.Rest() < 1) {
			t.Fatalf("a balance of %d, a rest of %s", l.Balance(), text(l.Rest()))
		}
		if l.Balance() == most {
			full++
		}
	}
	if kept.Cmp(number(100*most)) < 0 || full < 1000 || full > 59000 {
		t.Fatalf("too little was done: %v deposited, %d times full", kept, full)
	}
}

// P7.2: of parts whose sums are exact, what was earned is what was spent, and the balance and the rest.
func TestPartsAreNotLostEither(t *testing.T) {
	next := some()
	l := &Ledger{}
	earned, spent := 0, 0 // in 4096ths
	for range 60000 {
		part := int(next(3 * 4096))
		l.Earn(float64(part) / 4096)
		earned += part
		spent += 4096 * l.Take(int(next(4)))
		if left := l.Balance()*4096 + int(l.Rest()*4096); left != earned-spent {
			t.Fatalf("%d 4096ths are left, not %d", left, earned-spent)
		}
	}
}
