package amount_test

import (
	"math"
	"math/big"
	"math/rand"
	"slices"
	"testing"

	"coracle/amount"
	"coracle/api"
)

const (
	top   = api.MaxMoney
	heavy = 4000000
	dear  = api.MaxRate
)

// Numbers that are no amounts.
var wrong = []int{math.MinInt, math.MinInt + 1, -1 << 62, -top - 1, -top, -1000, -2, -1, top + 1, top + 2, 2 * top, 1 << 62, math.MaxInt - 1, math.MaxInt}

// Numbers around every edge of the chapter.
var edges = append(slices.Clone(wrong), 0, 1, 2, 3, 999, 1000, 1001, heavy-1, heavy, heavy+1, dear-1, dear, dear+1, top/2, top/2+1, top-1, top)

// answers is what a call of this package told.
type answers struct {
	n int
	e api.Errno
}

// told packs the two results of a call.
func told(n int, e api.Errno) answers { return answers{n, e} }

// well is an answer without an error.
func well(n int) answers { return answers{n, api.OK} }

// over is the answer to what runs over: nothing beside the error.
var over = answers{0, api.ErrOver}

// is fails, unless got is want.
func is(t *testing.T, what string, got, want answers) {
	t.Helper()
	if got != want {
		t.Errorf("%s: got %d, error %d; want %d, error %d", what, got.n, got.e, want.n, want.e)
	}
}

// within tells of a number without bounds whether it is 0 to most.
func within(n *big.Int, most int) bool {
	return n.Sign() >= 0 && n.Cmp(big.NewInt(int64(most))) <= 0
}

// asAmount is what a call must tell whose exact result is n, and whose arguments were fine or not.
func asAmount(n *big.Int, fine bool) answers {
	if !fine || !within(n, top) {
		return over
	}
	return well(int(n.Int64()))
}

func exact(n int) *big.Int { return big.NewInt(int64(n)) }

func isAmount(n int) bool { return within(exact(n), top) }

// wantTotal is Total, reckoned without bounds.
func wantTotal(l []int) answers {
	sum, fine := new(big.Int), true
	for _, a := range l {
		sum.Add(sum, exact(a))
		fine = fine && isAmount(a) && within(sum, top)
	}
	return asAmount(sum, fine)
}

// wantFee is Fee, reckoned without bounds: the quotient, and one more if something is left.
func wantFee(weight, rate int) answers {
	fine := within(exact(weight), heavy) && within(exact(rate), dear)
	whole, left := new(big.Int).QuoRem(new(big.Int).Mul(exact(weight), exact(rate)), exact(1000), new(big.Int))
	if left.Sign() > 0 {
		whole.Add(whole, exact(1))
	}
	return asAmount(whole, fine)
}

// wantRate is Rate, reckoned without bounds.
func wantRate(fee, weight int) answers {
	if !isAmount(fee) || weight == 0 || !within(exact(weight), heavy) {
		return over
	}
	rate := new(big.Int).Quo(new(big.Int).Mul(exact(fee), exact(1000)), exact(weight))
	if rate.Cmp(exact(dear)) > 0 {
		rate = exact(dear)
	}
	return well(int(rate.Int64()))
}

func TestValid(t *testing.T) {
	if top != 21*100000000000000 {
		t.Errorf("P4.1: MaxMoney is %d", top)
	}
	for _, a := range []int{0, 1, 2, 1000, top / 2, top - 1, top} {
		if !amount.Valid(a) {
			t.Errorf("P4.1: Valid(%d) is false", a)
		}
	}
	for _, a := range wrong {
		if amount.Valid(a) {
			t.Errorf("P4.1: Valid(%d) is true", a)
		}
	}
}

func TestAdd(t *testing.T) {
	is(t, "P4.1: 1 and 2", told(amount.Add(1, 2)), well(3))
	is(t, "P4.1: 2 and 1", told(amount.Add(2, 1)), well(3))
	is(t, "P4.1: noughts", told(amount.Add(0, 0)), well(0))
	is(t, "P4.1: the greatest and 0", told(amount.Add(top, 0)), well(top))
	is(t, "P4.1: 0 and the greatest", told(amount.Add(0, top)), well(top))
	is(t, "P4.1: just the greatest", told(amount.Add(top-1, 1)), well(top))
	is(t, "P4.1: one more than the greatest", told(amount.Add(top-1, 2)), over)
	is(t, "P4.1: the greatest and 1", told(amount.Add(top, 1)), over)
	is(t, "P4.1: halves", told(amount.Add(top/2, top/2)), well(top))
	is(t, "P4.1: the greatest twice", told(amount.Add(top, top)), over)
	is(t, "P4.1: one below 0, a fine sum", told(amount.Add(-1, 2)), over)
	is(t, "P4.1: the other below 0, a fine sum", told(amount.Add(2, -1)), over)
	is(t, "P4.1: one beyond, a fine sum", told(amount.Add(top+1, -1)), over)
	is(t, "P4.1: a sum that wraps round to 0", told(amount.Add(math.MinInt, math.MinInt)), over)
	is(t, "P4.1: a sum that wraps round below 0", told(amount.Add(1<<62, 1<<62)), over)
}

func TestSub(t *testing.T) {
	is(t, "P4.1: 5 less 2", told(amount.Sub(5, 2)), well(3))
	is(t, "P4.1: noughts", told(amount.Sub(0, 0)), well(0))
	is(t, "P4.1: a difference of 0", told(amount.Sub(3, 3)), well(0))
	is(t, "P4.1: a difference below 0", told(amount.Sub(3, 4)), over)
	is(t, "P4.1: 0 less 1", told(amount.Sub(0, 1)), over)
	is(t, "P4.1: the greatest less 0", told(amount.Sub(top, 0)), well(top))
	is(t, "P4.1: the greatest less itself", told(amount.Sub(top, top)), well(0))
	is(t, "P4.1: the greatest less 1", told(amount.Sub(top, 1)), well(top-1))
	is(t, "P4.1: one less than the greatest less the greatest", told(amount.Sub(top-1, top)), over)
	is(t, "P4.1: both below 0, a fine difference", told(amount.Sub(-1, -2)), over)
	is(t, "P4.1: less one below 0, a fine difference", told(amount.Sub(1, -2)), over)
	is(t, "P4.1: both beyond, a fine difference", told(amount.Sub(top+2, top+1)), over)
	is(t, "P4.1: the first beyond, a fine difference", told(amount.Sub(top+1, 1)), over)
	is(t, "P4.1: a difference that wraps round", told(amount.Sub(math.MinInt, math.MaxInt)), over)
}

// TestPairsOfEdges holds Add and Sub against numbers without bounds, at all edges.
func TestPairsOfEdges(t *testing.T) {
	for _, a := range edges {
		for _, b := range edges {
			fine := isAmount(a) && isAmount(b)
			if got, want := told(amount.Add(a, b)), asAmount(new(big.Int).Add(exact(a), exact(b)), fine); got != want {
				t.Errorf("P4.1: Add(%d, %d): got %v, want %v", a, b, got, want)
			}
			if got, want := told(amount.Sub(a, b)), asAmount(new(big.Int).Sub(exact(a), exact(b)), fine); got != want {
				t.Errorf("P4.1: Sub(%d, %d): got %v, want %v", a, b, got, want)
			}
		}
	}
}

func TestTotal(t *testing.T) {
	is(t, "P4.1: of none", told(amount.Total()), well(0))
	is(t, "P4.1: of an empty list", told(amount.Total([]int{}...)), well(0))
	is(t, "P4.1: of one", told(amount.Total(7)), well(7))
	is(t, "P4.1: of 0", told(amount.Total(0)), well(0))
	is(t, "P4.1: of the greatest", told(amount.Total(top)), well(top))
	is(t, "P4.1: of three", told(amount.Total(1, 2, 3)), well(6))
	is(t, "P4.1: just the greatest", told(amount.Total(top-3, 1, 0, 2)), well(top))
	is(t, "P4.1: one more than the greatest", told(amount.Total(top-3, 1, 0, 3)), over)
	is(t, "P4.1: the greatest and 0", told(amount.Total(0, top, 0)), well(top))
	is(t, "P4.1: over, then back", told(amount.Total(top, 1, -1)), over)
	is(t, "P4.1: below 0, then back", told(amount.Total(1, -2, 3)), over)
	is(t, "P4.1: one below 0 among them", told(amount.Total(1, -1, 1)), over)
	is(t, "P4.1: one below 0 at the end", told(amount.Total(5, -1)), over)
	is(t, "P4.1: a sum that wraps round to 0", told(amount.Total(1<<62, 1<<62, 1<<62, 1<<62)), over)
	for _, a := range wrong {
		is(t, "P4.1: of one that is wrong", told(amount.Total(a)), over)
		is(t, "P4.1: a wrong one first", told(amount.Total(a, 1, 2)), over)
		is(t, "P4.1: a wrong one last", told(amount.Total(1, 2, a)), over)
	}
}

// TestTotalOfMany: a sum of so many that it would wrap round an int, were it not asked on the way.
func TestTotalOfMany(t *testing.T) {
	many := slices.Repeat([]int{2100000000}, 1000000)
	is(t, "P4.1: a million that are just the greatest", told(amount.Total(many...)), well(top))
	is(t, "P4.1: and one more", told(amount.Total(append(many, 1)...)), over)
	// 8784 of the greatest are more than an int takes, and wrap round.
	for _, n := range []int{2, 8783, 8784, 8785, 100000} {
		is(t, "P4.1: the greatest many times", told(amount.Total(slices.Repeat([]int{top}, n)...)), over)
	}
}

func TestTotalDrawn(t *testing.T) {
	r := rand.New(rand.NewSource(4))
	for range 20000 {
		var l []int
		for range r.Intn(6) {
			switch r.Intn(8) {
			case 0:
				l = append(l, edges[r.Intn(len(edges))])
			default:
				l = append(l, r.Intn(top/2))
			}
		}
		if got, want := told(amount.Total(l...)), wantTotal(l); got != want {
			t.Fatalf("P4.1: Total(%v): got %v, want %v", l, got, want)
		}
	}
}

func TestTotalLeavesTheList(t *testing.T) {
	whole := []int{1, 2, 3, 77, 78}
	before := slices.Clone(whole)
	is(t, "P4.1: of a part of a list", told(amount.Total(whole[:3]...)), well(6))
	is(t, "P4.1: of a part of a list again", told(amount.Total(whole[:3]...)), well(6))
	if !slices.Equal(whole, before) {
		t.Errorf("P4.1: Total turned its list to %v", whole)
	}
}

func TestFee(t *testing.T) {
	is(t, "P4.2: the chapter's first", told(amount.Fee(1001, 1000)), well(1001))
	is(t, "P4.2: the chapter's second", told(amount.Fee(1, 1)), well(1))
	is(t, "P4.2: a weight of 0", told(amount.Fee(0, 1000)), well(0))
	is(t, "P4.2: a weight of 0 at the greatest rate", told(amount.Fee(0, dear)), well(0))
	is(t, "P4.2: a rate of 0", told(amount.Fee(heavy, 0)), well(0))
	is(t, "P4.2: noughts", told(amount.Fee(0, 0)), well(0))
	is(t, "P4.2: a rest of 0", told(amount.Fee(2000, 253)), well(506))
	is(t, "P4.2: a rest of 1", told(amount.Fee(1001, 1001)), well(1003))
	is(t, "P4.2: a rest of 1 alone", told(amount.Fee(91, 11)), well(2))
	is(t, "P4.2: a rest of 999", told(amount.Fee(999, 1)), well(1))
	is(t, "P4.2: a rest of 999 beyond a whole", told(amount.Fee(1999, 1)), well(2))
	is(t, "P4.2: just a whole", told(amount.Fee(1000, 1)), well(1))
	is(t, "P4.2: a weight of 1 at the greatest rate", told(amount.Fee(1, dear)), well(1000000))
	is(t, "P4.2: the greatest weight at 1", told(amount.Fee(heavy, 1)), well(4000))
	is(t, "P4.2: one less than the greatest weight at 1", told(amount.Fee(heavy-1, 1)), well(4000))
	is(t, "P4.2: the greatest of both", told(amount.Fee(heavy, dear)), well(4000000000000))
	is(t, "P4.2: beyond a transaction's greatest weight", told(amount.Fee(api.MaxWeight+1, 1000)), well(api.MaxWeight+1))
	is(t, "P4.2: one more than the greatest weight", told(amount.Fee(heavy+1, 1)), over)
	is(t, "P4.2: one more than the greatest weight, at 0", told(amount.Fee(heavy+1, 0)), over)
	is(t, "P4.2: one more than the greatest rate", told(amount.Fee(1, dear+1)), over)
	is(t, "P4.2: one more than the greatest rate, of 0", told(amount.Fee(0, dear+1)), over)
	is(t, "P4.2: a weight below 0", told(amount.Fee(-1, 1)), over)
	is(t, "P4.2: a rate below 0", told(amount.Fee(1, -1)), over)
	is(t, "P4.2: both below 0", told(amount.Fee(-1000, -1000)), over)
	is(t, "P4.2: a product that wraps round to 0", told(amount.Fee(1<<62, 4)), over)
}

func TestRate(t *testing.T) {
	is(t, "P4.2: 1 for 1", told(amount.Rate(1, 1)), well(1000))
	is(t, "P4.2: a rest of 0", told(amount.Rate(506, 2000)), well(253))
	is(t, "P4.2: cut", told(amount.Rate(505, 2000)), well(252))
	is(t, "P4.2: a rest of 1", told(amount.Rate(1, 999)), well(1))
	is(t, "P4.2: a rest of one less than the weight", told(amount.Rate(1, 1001)), well(0))
	is(t, "P4.2: the greatest rest beyond a whole", told(amount.Rate(2, 667)), well(2))
	is(t, "P4.2: a fee of 0", told(amount.Rate(0, 5)), well(0))
	is(t, "P4.2: a fee of 0 for the greatest weight", told(amount.Rate(0, heavy)), well(0))
	is(t, "P4.2: 1 for the greatest weight", told(amount.Rate(1, heavy)), well(0))
	is(t, "P4.2: just the greatest rate", told(amount.Rate(1000000, 1)), well(dear))
	is(t, "P4.2: nearly the greatest rate", told(amount.Rate(999999, 1)), well(999999000))
	is(t, "P4.2: a rate that would be greater", told(amount.Rate(1000001, 1)), well(dear))
	is(t, "P4.2: just the greatest rate of the greatest weight", told(amount.Rate(4000000000000, heavy)), well(dear))
	is(t, "P4.2: one less", told(amount.Rate(3999999999999, heavy)), well(dear-1))
	is(t, "P4.2: one more", told(amount.Rate(4000000000001, heavy)), well(dear))
	is(t, "P4.2: the greatest fee for 1", told(amount.Rate(top, 1)), well(dear))
	is(t, "P4.2: the greatest fee for the greatest weight", told(amount.Rate(top, heavy)), well(dear))
	is(t, "P4.2: a weight of 0", told(amount.Rate(1, 0)), over)
	is(t, "P4.2: noughts", told(amount.Rate(0, 0)), over)
	is(t, "P4.2: one more than the greatest weight", told(amount.Rate(1, heavy+1)), over)
	is(t, "P4.2: a weight below 0", told(amount.Rate(1, -1)), over)
	is(t, "P4.2: a fee below 0", told(amount.Rate(-1, 1)), over)
	is(t, "P4.2: both below 0", told(amount.Rate(-1, -1)), over)
	is(t, "P4.2: one more than the greatest fee", told(amount.Rate(top+1, 1)), over)
	is(t, "P4.2: the least int by -1", told(amount.Rate(math.MinInt, -1)), over)
	is(t, "P4.2: a fee whose thousandfold wraps round", told(amount.Rate(1<<61, heavy)), over)
}

// TestFeesAndRatesOfEdges holds Fee and Rate against numbers without bounds, at all edges and at what is drawn.
func TestFeesAndRatesOfEdges(t *testing.T) {
	check := func(a, b int) {
		t.Helper()
		if got, want := told(amount.Fee(a, b)), wantFee(a, b); got != want {
			t.Errorf("P4.2: Fee(%d, %d): got %v, want %v", a, b, got, want)
		}
		if got, want := told(amount.Rate(a, b)), wantRate(a, b); got != want {
			t.Errorf("P4.2: Rate(%d, %d): got %v, want %v", a, b, got, want)
		}
	}
	for _, a := range edges {
		for _, b := range edges {
			check(a, b)
		}
	}
	r := rand.New(rand.NewSource(42))
	for range 20000 {
		check(r.Intn(heavy+2), r.Intn(dear+2))
		check(r.Intn(top+2), r.Intn(heavy+2))
		check(r.Intn(5000), r.Intn(5000))
	}
}

// TestFeeOfRate: and no greater rate but those that the chapter rules out keeps the fee within f.
func TestFeeOfRate(t *testing.T) {
	check := func(f, w int) {
		t.Helper()
		rate, e := amount.Rate(f, w)
		if e != api.OK {
			t.Fatalf("P4.3: Rate(%d, %d) is refused", f, w)
		}
		if fee, e := amount.Fee(w, rate); e != api.OK || fee > f {
			t.Errorf("P4.3: Fee(%d, Rate(%d, %d)): %d, error %d", w, f, w, fee, e)
		}
		if fee, e := amount.Fee(w, rate+1); rate < dear && (e != api.OK || fee <= f) {
			t.Errorf("P4.2: Rate(%d, %d) is %d, but the fee of one more is %d, error %d", f, w, rate, fee, e)
		}
	}
	for w := 1; w < 1500; w += 7 {
		for f := range 300 {
			check(f, w)
		}
	}
	for _, f := range []int{0, 1, 999, 1000, 1001, 1000000, 4000000000000 - 1, 4000000000000, 4000000000000 + 1, top - 1, top} {
		for _, w := range []int{1, 2, 3, 999, 1000, 1001, heavy - 1, heavy} {
			check(f, w)
		}
	}
	r := rand.New(rand.NewSource(43))
	for range 20000 {
		check(r.Intn(top+1), 1+r.Intn(heavy))
		check(r.Intn(4000000000), 1+r.Intn(heavy))
	}
}
