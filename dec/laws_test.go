package dec_test

import (
	"math/rand"
	"testing"

	"glean/api"
	"glean/dec"
	"glean/nat"
)

// P2.5: what Quo answers is the greatest that isn't above, held against a by nat's exact products.
func TestQuoIsTheGreatest(t *testing.T) {
	r := rand.New(rand.NewSource(4))
	ok := answered(t)
	for range 3000 {
		a, b := sample(r), sample(r)
		if dec.Zero(b) {
			continue
		}
		q := ok(dec.Quo(a, b))
		exact := nat.Mul(a.Raw, dec.Of(1).Raw)
		if nat.Cmp(nat.Mul(q.Raw, b.Raw), exact) > 0 {
			t.Fatalf("P2.5: %s by %s: %s is too much", dec.Text(a), dec.Text(b), dec.Text(q))
		}
		if more := dec.Add(q, least); nat.Cmp(nat.Mul(more.Raw, b.Raw), exact) <= 0 {
			t.Fatalf("P2.5: %s by %s: %s is too little", dec.Text(a), dec.Text(b), dec.Text(q))
		}
	}
}

// P2.5: a divisor that divides often makes that both sorts of results come.
func TestUpAndDown(t *testing.T) {
	r := rand.New(rand.NewSource(5))
	ok := answered(t)
	var whole, broken int
	for range 3000 {
		a, b, c := sample(r), sample(r), sample(r)
		if r.Intn(2) == 0 {
			a = dec.Times(c, r.Uint64())
		}
		if dec.Zero(c) {
			continue
		}
		low, high := ok(dec.MulDiv(a, b, c)), ok(dec.MulDivUp(a, b, c))
		_, left, _ := nat.MulDiv(a.Raw, b.Raw, c.Raw)
		if len(left) == 0 {
			whole++
			wantDec(t, "P2.5: up, of what has 36 places", high, low)
		} else {
			broken++
			wantDec(t, "P2.5: up, of what has more places", high, dec.Add(low, least))
		}
	}
	if whole < 500 || broken < 500 {
		t.Errorf("P2.5: %d whole ones, %d others", whole, broken)
	}
}

// P2.5
func TestThereAndBack(t *testing.T) {
	r := rand.New(rand.NewSource(6))
	ok := answered(t)
	for range 3000 {
		a, b, n := sample(r), sample(r), r.Uint64()>>r.Intn(64)
		wantDec(t, "P2.5: a Of(n) is a n", dec.Mul(a, dec.Of(n)), dec.Times(a, n))
		if n != 0 {
			wantDec(t, "P2.5: a n by n is a", ok(dec.Over(dec.Times(a, n), n)), a)
		}
		if !dec.Zero(b) {
			wantDec(t, "P2.5: a b / b is a", ok(dec.MulDiv(a, b, b)), a)
		}
	}
}

// P2.6: a rise of the least kind is where a result that sinks shows itself.
func TestResultsRise(t *testing.T) {
	r := rand.New(rand.NewSource(7))
	ok := answered(t)
	rises := func(what string, low, high api.Dec) {
		t.Helper()
		if dec.Cmp(low, high) > 0 {
			t.Fatalf("P2.6: %s: %s, then %s", what, dec.Text(low), dec.Text(high))
		}
	}
	for i := range 3000 {
		a, b, c, n := sample(r), sample(r), sample(r), 1+r.Uint64()>>r.Intn(64)
		more := dec.Add(a, least)
		if i%2 == 0 {
			more = dec.Add(a, sample(r))
		}
		rises("Mul in a", dec.Mul(a, b), dec.Mul(more, b))
		rises("Mul in b", dec.Mul(b, a), dec.Mul(b, more))
		if n != 0 {
			rises("Over in a", ok(dec.Over(a, n)), ok(dec.Over(more, n)))
		}
		if !dec.Zero(c) {
			rises("Quo in a", ok(dec.Quo(a, c)), ok(dec.Quo(more, c)))
			rises("MulDiv in a", ok(dec.MulDiv(a, b, c)), ok(dec.MulDiv(more, b, c)))
		}
	}
}

// P2.6
func TestTextThereAndBack(t *testing.T) {
	r := rand.New(rand.NewSource(8))
	for range 3000 {
		a := sample(r)
		wantDec(t, "P2.6: Parse(Text)", parsed(t, dec.Text(a)), a)
	}
}
