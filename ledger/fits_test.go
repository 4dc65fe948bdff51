package ledger_test

import (
	"math/big"
	"math/rand"
	"testing"

	"glean/api"
	"glean/dec"
	"glean/ledger"
)

// grain: the bound's, reckoned by none of the project's calls.
var grain = big.NewRat(1, 1_000_000_000_000_000_000)

// plus adds two fractions.
func plus(x, y *big.Rat) *big.Rat { return new(big.Rat).Add(x, y) }

// less takes one fraction from another.
func less(x, y *big.Rat) *big.Rat { return new(big.Rat).Sub(x, y) }

// grainsOf tells so many of the bound's grains.
func grainsOf(n *big.Int) *big.Rat { return new(big.Rat).Mul(new(big.Rat).SetInt(n), grain) }

// wantFits fails unless Fits says so.
func wantFits(t *testing.T, what string, e *big.Rat, w uint64, q api.Dec, p, k int, want bool) {
	t.Helper()
	if got := ledger.Fits(ratOf(e), w, q, p, k); got != want {
		t.Fatalf("%s: Fits(%s, %d, %s, %d, %d): %t", what, e, w, dec.Text(q), p, k, got)
	}
}

// P24.4: the chapter's examples.
func TestFitsExamples(t *testing.T) {
	q := parsed(t, "0.33")
	wantFits(t, "P24.4", fraction(4, 3), 1, q, 0, 0, false)
	wantFits(t, "P24.4", fraction(4, 3), 1, q, 100_000_000_000_000_000, 0, true)
}

// P24.4: what is paid may be all that is owed, but no hair more; and may be less by the bound, but no hair more.
func TestFitsAtTheEdges(t *testing.T) {
	hair := new(big.Rat).SetFrac(big.NewInt(1), new(big.Int).Exp(scale, big.NewInt(3), nil))
	for _, x := range []struct{ p, k, grains int64 }{{0, 0, 0}, {0, 5, 0}, {1, 0, 3}, {1, 1, 4}, {1, 7, 10}, {2, 0, 6}, {7, 4, 49}, {1000, 1000, 1_003_000}} {
		for _, w := range []uint64{0, 1, 77, top} {
			for _, text := range []string{"0", "0.000000000000000000000000000000000001", "0.999999999999999999999999999999999999", "3.25"} {
				q := parsed(t, text)
				paid := plus(ratValue(w), decValue(q))
				bound := plus(paid, grainsOf(big.NewInt(x.grains)))
				p, k := int(x.p), int(x.k)
				wantFits(t, "P24.4: all that is owed", paid, w, q, p, k, true)
				wantFits(t, "P24.4: less by the bound", bound, w, q, p, k, true)
				wantFits(t, "P24.4: less by more than the bound", plus(bound, hair), w, q, p, k, false)
				if paid.Sign() > 0 {
					wantFits(t, "P24.4: more than is owed", less(paid, hair), w, q, p, k, false)
				}
				if x.grains > 0 {
					wantFits(t, "P24.4: less by not all of the bound", less(bound, hair), w, q, p, k, true)
				}
			}
		}
	}
}

// P24.4: nothing is owed and nothing is paid, or something is paid for nothing.
func TestFitsNothing(t *testing.T) {
	for _, e := range []api.Rat{{}, {Den: api.Nat{1}}, {Num: api.Nat{5}}, {Num: api.Nat{5}, Den: api.Nat{0, 0}}, {Num: api.Nat{0, 0}, Den: api.Nat{9}}} {
		for _, n := range []int{0, 1, most, -1, -most - 1} {
			if !ledger.Fits(e, 0, api.Dec{}, n, n) || !ledger.Fits(e, 0, api.Dec{Raw: api.Nat{0, 0}}, n, n) {
				t.Errorf("P24.4: Fits(%v, 0, 0, %d, %d): false", e, n, n)
			}
			if ledger.Fits(e, 1, api.Dec{}, n, n) || ledger.Fits(e, 0, api.Dec{Raw: api.Nat{1}}, n, n) {
				t.Errorf("P24.4: Fits(%v, more, %d, %d): true", e, n, n)
			}
		}
	}
}

// P24.4: p or k below 0 count as 0.
func TestFitsBelowNothing(t *testing.T) {
	three := grainsOf(big.NewInt(3))
	owed := plus(ratValue(1), three)
	more := plus(ratValue(1), grainsOf(big.NewInt(6)))
	for _, below := range []int{-1, -2, -3, -4, -1000, -most, -most - 1} {
		wantFits(t, "P24.4: p below 0", owed, 1, api.Dec{}, below, 0, false)
		wantFits(t, "P24.4: p below 0", owed, 1, api.Dec{}, below, 5, false)
		wantFits(t, "P24.4: p below 0, all that is owed", ratValue(1), 1, api.Dec{}, below, 5, true)
		wantFits(t, "P24.4: k below 0", owed, 1, api.Dec{}, 1, below, true)
		wantFits(t, "P24.4: k below 0", more, 1, api.Dec{}, 2, below, true)
		wantFits(t, "P24.4: k below 0", more, 1, api.Dec{}, 1, below, false)
		wantFits(t, "P24.4: both below 0", owed, 1, api.Dec{}, below, below, false)
		wantFits(t, "P24.4: both below 0, all that is owed", ratValue(1), 1, api.Dec{}, below, below, true)
	}
}

// P24.4: the greatest p and k go beyond no word.
func TestFitsOfTheGreatest(t *testing.T) {
	great := new(big.Int).SetInt64(int64(most))
	for _, x := range []struct{ p, k int }{{most, 0}, {1, most}, {most, most}, {2, most - 2}, {most, 1}} {
		factor := new(big.Int).Add(new(big.Int).SetInt64(int64(x.k)), big.NewInt(3))
		bound := grainsOf(factor.Mul(factor, new(big.Int).SetInt64(int64(x.p))))
		wantFits(t, "P24.4: greatest", bound, 0, api.Dec{}, x.p, x.k, true)
		wantFits(t, "P24.4: greatest and a hair", plus(bound, big.NewRat(1, 1<<62)), 0, api.Dec{}, x.p, x.k, false)
		wantFits(t, "P24.4: greatest by a coin", plus(bound, ratValue(top)), top, api.Dec{}, x.p, x.k, true)
	}
	wantFits(t, "P24.4: greater still", new(big.Rat).SetInt(great.Mul(great, great)), 0, api.Dec{}, most, most, false)
}

// P24.4: values count, not how they are laid.
func TestFitsOfAnyForm(t *testing.T) {
	e := api.Rat{Num: api.Nat{9, 0, 0}, Den: api.Nat{6, 0}}
	half := api.Dec{Raw: append(parsed(t, "0.5").Raw, 0, 0)}
	if !ledger.Fits(e, 1, half, 0, 0) || ledger.Fits(e, 1, api.Dec{Raw: api.Nat{0}}, 0, 0) {
		t.Error("P24.4: not reduced, not normal")
	}
	wantFits(t, "P24.4: q above 1", fraction(9, 2), 1, parsed(t, "3.5"), 0, 0, true)
	long := api.Dec{Raw: append(make(api.Nat, 50), 1)}
	wantFits(t, "P24.4: a long q", plus(ratValue(top), decValue(long)), top, long, 0, 0, true)
	wantFits(t, "P24.4: a long q", decValue(long), 1, long, 9, 9, false)
}

// P24.4: against another arithmetic.
func TestFitsDrawn(t *testing.T) {
	r := rand.New(rand.NewSource(24))
	yes := 0
	for range 5000 {
		w, q := uint64(r.Intn(3)), api.Dec{Raw: natOf(new(big.Int).Rand(r, scale))}
		p, k := r.Intn(9)-2, r.Intn(9)-2
		paid := plus(ratValue(w), decValue(q))
		bound := grainsOf(big.NewInt(int64(max(p, 0) * (max(k, 0) + 3))))
		e := plus(paid, new(big.Rat).Mul(bound, big.NewRat(int64(r.Intn(9)-1), 6)))
		if e.Sign() < 0 {
			continue
		}
		want := paid.Cmp(e) <= 0 && less(e, bound).Cmp(paid) <= 0
		wantFits(t, "P24.4: drawn", e, w, q, p, k, want)
		if want {
			yes++
		}
	}
	if yes < 1000 || yes > 4500 {
		t.Fatalf("drawn badly: %d fit", yes)
	}
}
