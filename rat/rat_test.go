package rat_test

import (
	"math/big"
	"math/rand"
	"strings"
	"testing"

	"glean/api"
	"glean/dec"
	"glean/rat"
)

// P3.1
func TestOf(t *testing.T) {
	ok := answered(t)
	for _, x := range []struct {
		num, den api.Nat
		want     api.Rat
	}{
		{api.Nat{6}, api.Nat{4}, small(3, 2)},
		{api.Nat{4}, api.Nat{6}, small(2, 3)},
		{api.Nat{3}, api.Nat{7}, small(3, 7)},
		{api.Nat{7}, api.Nat{7}, small(1, 1)},
		{api.Nat{7, 0}, api.Nat{1, 0, 0}, small(7, 1)},
		{nil, api.Nat{7}, api.Rat{Den: api.Nat{1}}},
		{api.Nat{0, 0}, api.Nat{0, 1}, api.Rat{Den: api.Nat{1}}},
		{api.Nat{0, 1}, api.Nat{0, 3}, small(1, 3)},
		{api.Nat{0, 1, 0}, api.Nat{1 << 63}, small(2, 1)},
		{api.Nat{top}, api.Nat{top - 1}, small(top, top-1)},
		{api.Nat{top, top}, api.Nat{top}, api.Rat{Num: api.Nat{1, 1}, Den: api.Nat{1}}},
		{api.Nat{top}, api.Nat{top, top}, api.Rat{Num: api.Nat{1}, Den: api.Nat{1, 1}}},
	} {
		wantSame(t, "P3.1: Of", ok(rat.Of(x.num, x.den)), x.want)
	}
	for _, num := range []api.Nat{nil, {0}, {1}, {0, 1}} {
		for _, den := range []api.Nat{nil, {}, {0}, {0, 0}} {
			got, e := rat.Of(num, den)
			wantError(t, "P3.1: Of", got, e, api.ErrRatZero)
		}
	}
}

// P3.1
func TestOfNatOfDec(t *testing.T) {
	for _, n := range []api.Nat{nil, {}, {0}, {0, 0}, {1}, {4, 0}, {top}, {0, 1}, {0, 0, 7, 0}} {
		wantValue(t, "P3.1: OfNat", rat.OfNat(n), new(big.Rat).SetInt(whole(n)))
	}
	for _, x := range []struct {
		d        string
		num, den uint64
	}{
		{"0", 0, 1}, {"1", 1, 1}, {"2.75", 11, 4}, {"0.5", 1, 2}, {"0.125", 1, 8}, {"0.3", 3, 10}, {"18446744073709551615", top, 1},
	} {
		wantSmall(t, "P3.1: OfDec "+x.d, rat.OfDec(parsed(t, x.d)), x.num, x.den)
	}
	wantSmall(t, "P3.1: OfDec of 0", rat.OfDec(api.Dec{Raw: api.Nat{0, 0}}), 0, 1)
	wantValue(t, "P3.1: OfDec of the least", rat.OfDec(api.Dec{Raw: api.Nat{1, 0}}), new(big.Rat).SetFrac(big.NewInt(1), scale))
}

// P3.1
func TestZero(t *testing.T) {
	for _, a := range noughts() {
		if !rat.Zero(a) {
			t.Errorf("P3.1: Zero(%v)", a)
		}
	}
	for _, a := range []api.Rat{small(1, 1), small(1, top), {Num: api.Nat{0, 1}, Den: api.Nat{1, 0}}, {Num: api.Nat{1, 0}, Den: api.Nat{0, 1}}} {
		if rat.Zero(a) {
			t.Errorf("P3.1: Zero(%v)", a)
		}
	}
}

// P3.1
func TestCmp(t *testing.T) {
	for _, a := range noughts() {
		for _, b := range noughts() {
			if rat.Cmp(a, b) != 0 {
				t.Errorf("P3.1: Cmp(%v, %v): both count as 0", a, b)
			}
		}
		if b := small(1, 9); rat.Cmp(a, b) != -1 || rat.Cmp(b, a) != 1 {
			t.Errorf("P3.1: Cmp of %v and 1 / 9: %d, %d", a, rat.Cmp(a, b), rat.Cmp(b, a))
		}
	}
	for _, x := range []struct {
		a, b api.Rat
		want int
	}{
		{small(1, 2), small(2, 4), 0},
		{small(6, 4), api.Rat{Num: api.Nat{3, 0}, Den: api.Nat{2, 0, 0}}, 0},
		{small(top, top), small(1, 1), 0},
		{small(1, 3), small(1, 2), -1},
		{small(2, 3), small(3, 4), -1},
		{small(9, 10), small(10, 11), -1},
		{small(5, 1), small(11, 2), -1},
		{small(top, 1), api.Rat{Num: api.Nat{0, 1}, Den: api.Nat{1}}, -1},
		{api.Rat{Num: api.Nat{1}, Den: api.Nat{0, 1}}, small(1, top), -1},
		{small(top-1, top), api.Rat{Num: api.Nat{top}, Den: api.Nat{0, 1}}, -1},
	} {
		if got := rat.Cmp(x.a, x.b); got != x.want {
			t.Errorf("P3.1: Cmp(%v, %v): %d", x.a, x.b, got)
		}
		if got := rat.Cmp(x.b, x.a); got != -x.want {
			t.Errorf("P3.1: Cmp(%v, %v): %d", x.b, x.a, got)
		}
	}
}

// P3.1, against another arithmetic.
func TestMadeAndHeldAtRandom(t *testing.T) {
	r := rand.New(rand.NewSource(1))
	ok := answered(t)
	for range 4000 {
		a, b := sample(r), sample(r)
		x, y := value(a), value(b)
		if rat.Cmp(a, b) != x.Cmp(y) || rat.Zero(a) != (x.Sign() == 0) {
			t.Fatalf("P3.1: Cmp(%s, %s): %d; Zero: %t", x, y, rat.Cmp(a, b), rat.Zero(a))
		}
		wantValue(t, "P3.1: OfNat", rat.OfNat(a.Num), new(big.Rat).SetInt(whole(a.Num)))
		wantValue(t, "P3.1: OfDec", rat.OfDec(api.Dec{Raw: a.Num}), new(big.Rat).SetFrac(whole(a.Num), scale))
		if whole(a.Den).Sign() == 0 {
			got, e := rat.Of(a.Num, a.Den)
			wantError(t, "P3.1: Of", got, e, api.ErrRatZero)
			continue
		}
		wantValue(t, "P3.1: Of", ok(rat.Of(a.Num, a.Den)), x)
	}
}

// P3.3
func TestFloor(t *testing.T) {
	for _, a := range noughts() {
		wantNat(t, "P3.3: Floor of what counts as 0", rat.Floor(a), new(big.Int))
	}
	for _, x := range []struct {
		a    api.Rat
		want uint64
	}{
		{small(7, 2), 3}, {small(8, 2), 4}, {small(9, 2), 4}, {small(1, 2), 0}, {small(top-1, top), 0}, {small(top, top), 1}, {small(top, 1), top},
		{api.Rat{Num: api.Nat{3, 0}, Den: api.Nat{1, 0}}, 3}, {api.Rat{Num: api.Nat{5}, Den: api.Nat{0, 1}}, 0},
	} {
		wantNat(t, "P3.3: Floor", rat.Floor(x.a), new(big.Int).SetUint64(x.want))
	}
}

// P3.3
func TestDown(t *testing.T) {
	for _, a := range noughts() {
		wantNat(t, "P3.3: Down of what counts as 0", rat.Down(a).Raw, new(big.Int))
	}
	for _, x := range []struct {
		a    api.Rat
		want string
	}{
		{small(1, 3), "0." + strings.Repeat("3", 36)},
		{small(2, 3), "0." + strings.Repeat("6", 36)},
		{small(4, 6), "0." + strings.Repeat("6", 36)},
		{small(7, 1), "7"},
		{small(11, 4), "2.75"},
		{small(1, 1), "1"},
		{small(top, 2), "9223372036854775807.5"},
		{api.Rat{Num: api.Nat{1}, Den: limbs(scale)}, dec.Text(hair)},
		{api.Rat{Num: api.Nat{1}, Den: limbs(new(big.Int).Add(scale, big.NewInt(1)))}, "0"},
		{api.Rat{Num: limbs(new(big.Int).Sub(scale, big.NewInt(1))), Den: limbs(scale)}, "0." + strings.Repeat("9", 36)},
		{api.Rat{Num: limbs(scale), Den: limbs(new(big.Int).Add(scale, big.NewInt(1)))}, "0." + strings.Repeat("9", 36)},
	} {
		if got := dec.Text(rat.Down(x.a)); got != x.want {
			t.Errorf("P3.3: Down(%v): %s, not %s", x.a, got, x.want)
		}
	}
}

// P3.3, against another arithmetic.
func TestRoundedAtRandom(t *testing.T) {
	r := rand.New(rand.NewSource(2))
	for range 4000 {
		a := sample(r)
		x := value(a)
		wantNat(t, "P3.3: Floor", rat.Floor(a), new(big.Int).Quo(x.Num(), x.Denom()))
		raised := new(big.Int).Mul(x.Num(), scale)
		wantNat(t, "P3.3: Down", rat.Down(a).Raw, raised.Quo(raised, x.Denom()))
	}
}
