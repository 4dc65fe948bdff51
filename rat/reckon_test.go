package rat_test

import (
	"math/big"
	"math/rand"
	"testing"

	"glean/api"
	"glean/rat"
)

// P3.2
func TestReckonedByHand(t *testing.T) {
	ok := answered(t)
	for _, x := range []struct {
		what     string
		got      api.Rat
		num, den uint64
	}{
		{"1 / 3 + 1 / 6", rat.Add(small(1, 3), small(1, 6)), 1, 2},
		{"1 / 2 + 1 / 2", rat.Add(small(1, 2), small(1, 2)), 1, 1},
		{"1 / 2 + 1 / 3", rat.Add(small(1, 2), small(1, 3)), 5, 6},
		{"2 / 4 + 3 / 6", rat.Add(small(2, 4), small(3, 6)), 1, 1},
		{"1 / 10 + 1 / 15", rat.Add(small(1, 10), small(1, 15)), 1, 6},
		{"6 / 4 + 0", rat.Add(small(6, 4), small(0, 5)), 3, 2},
		{"1 / 2 - 1 / 3", ok(rat.Sub(small(1, 2), small(1, 3))), 1, 6},
		{"1 / 2 - 1 / 6", ok(rat.Sub(small(1, 2), small(1, 6))), 1, 3},
		{"3 / 6 - 2 / 4", ok(rat.Sub(small(3, 6), small(2, 4))), 0, 1},
		{"7 / 12 - 0", ok(rat.Sub(small(14, 24), small(0, 0))), 7, 12},
		{"2 / 3 times 3 / 4", rat.Mul(small(2, 3), small(3, 4)), 1, 2},
		{"4 / 6 times 6 / 4", rat.Mul(small(4, 6), small(6, 4)), 1, 1},
		{"top / 7 times 7 / top", rat.Mul(small(top, 7), small(7, top)), 1, 1},
		{"0 times 3 / 4", rat.Mul(small(0, 3), small(3, 4)), 0, 1},
		{"1 / 2 by 3 / 4", ok(rat.Quo(small(1, 2), small(3, 4))), 2, 3},
		{"5 / 3 by 5 / 3", ok(rat.Quo(small(5, 3), small(10, 6))), 1, 1},
		{"0 by 5 / 3", ok(rat.Quo(small(0, 4), small(5, 3))), 0, 1},
		{"1 by 1 / top", ok(rat.Quo(small(1, 1), small(1, top))), top, 1},
		{"none", rat.Sum(), 0, 1},
		{"none, of an empty list", rat.Sum([]api.Rat{}...), 0, 1},
		{"4 / 6 alone", rat.Sum(small(4, 6)), 2, 3},
		{"1 / 2 + 1 / 3 + 1 / 6", rat.Sum(small(1, 2), small(1, 3), small(1, 6)), 1, 1},
		{"1 / 4 four times", rat.Sum(small(1, 4), small(1, 4), small(2, 8), small(1, 4)), 1, 1},
	} {
		wantSmall(t, "P3.2: "+x.what, x.got, x.num, x.den)
	}
}

// P3.2
func TestReckonedWithNought(t *testing.T) {
	ok := answered(t)
	for _, z := range noughts() {
		wantSmall(t, "P3.2: 0 + a", rat.Add(z, small(6, 4)), 3, 2)
		wantSmall(t, "P3.2: a + 0", rat.Add(small(6, 4), z), 3, 2)
		wantSmall(t, "P3.2: a - 0", ok(rat.Sub(small(6, 4), z)), 3, 2)
		wantSmall(t, "P3.2: 0 a", rat.Mul(z, small(6, 4)), 0, 1)
		wantSmall(t, "P3.2: a 0", rat.Mul(small(6, 4), z), 0, 1)
		wantSmall(t, "P3.2: 0 / a", ok(rat.Quo(z, small(6, 4))), 0, 1)
		wantSmall(t, "P3.2: the sum", rat.Sum(z, small(6, 4), z, z), 3, 2)
		for _, y := range noughts() {
			wantSmall(t, "P3.2: 0 + 0", rat.Add(z, y), 0, 1)
			wantSmall(t, "P3.2: 0 - 0", ok(rat.Sub(z, y)), 0, 1)
			wantSmall(t, "P3.2: 0 0", rat.Mul(z, y), 0, 1)
			wantSmall(t, "P3.2: the sum", rat.Sum(z, y), 0, 1)
		}
	}
}

// P3.2
func TestReckonedRefused(t *testing.T) {
	for _, z := range noughts() {
		got, e := rat.Sub(z, api.Rat{Num: api.Nat{1}, Den: api.Nat{0, 0, 1}})
		wantError(t, "P3.2: 0 - a", got, e, api.ErrRatBelow)
		for _, a := range append(noughts(), small(1, 2), small(top, 1), api.Rat{Num: api.Nat{0, 3}, Den: api.Nat{0, 2}}) {
			got, e = rat.Quo(a, z)
			wantError(t, "P3.2: a / 0", got, e, api.ErrRatZero)
		}
	}
	for _, x := range []struct{ a, b api.Rat }{
		{small(1, 3), small(1, 2)}, {small(2, 6), small(2, 4)}, {small(9, 10), small(10, 11)}, {small(4, 1), small(5, 1)}, {small(top-1, top), small(1, 1)},
		{small(top, 1), api.Rat{Num: api.Nat{0, 1}, Den: api.Nat{1, 0}}},
	} {
		got, e := rat.Sub(x.a, x.b)
		wantError(t, "P3.2: Sub", got, e, api.ErrRatBelow)
	}
}

// P3.2, against another arithmetic.
func TestReckonedAtRandom(t *testing.T) {
	r := rand.New(rand.NewSource(3))
	ok := answered(t)
	for range 4000 {
		a, b := sample(r), sample(r)
		x, y := value(a), value(b)
		wantValue(t, "P3.2: Add", rat.Add(a, b), new(big.Rat).Add(x, y))
		wantValue(t, "P3.2: Mul", rat.Mul(a, b), new(big.Rat).Mul(x, y))
		if y.Sign() == 0 {
			got, e := rat.Quo(a, b)
			wantError(t, "P3.2: Quo", got, e, api.ErrRatZero)
		} else {
			wantValue(t, "P3.2: Quo", ok(rat.Quo(a, b)), new(big.Rat).Quo(x, y))
		}
		if x.Cmp(y) < 0 {
			got, e := rat.Sub(a, b)
			wantError(t, "P3.2: Sub", got, e, api.ErrRatBelow)
		} else {
			wantValue(t, "P3.2: Sub", ok(rat.Sub(a, b)), new(big.Rat).Sub(x, y))
		}
	}
}

// P3.2, against another arithmetic: denominators that have much in common, and such that have nothing.
func TestSumAtRandom(t *testing.T) {
	r := rand.New(rand.NewSource(4))
	for round := range 300 {
		l := make([]api.Rat, r.Intn(20))
		want := new(big.Rat)
		for i := range l {
			if l[i] = sample(r); round%2 == 0 {
				l[i] = small(uint64(r.Intn(50)), uint64(r.Intn(40)))
			}
			want.Add(want, value(l[i]))
		}
		wantValue(t, "P3.2: Sum", rat.Sum(l...), want)
	}
}

// P3.2: a sum whose parts have become long.
func TestSumOfMany(t *testing.T) {
	var l []api.Rat
	want, product := new(big.Int), big.NewInt(1)
	for den := uint64(1); den <= 3000; den++ {
		l = append(l, small(1, den*(den+1)))
	}
	// 1 / (n (n + 1)) is 1 / n less 1 / (n + 1): all but the ends fall out.
	wantSmall(t, "P3.2: Sum", rat.Sum(l...), 3000, 3001)
	l = l[:0]
	for den := top; den > top-400; den-- {
		l = append(l, small(1, den))
		n := new(big.Int).SetUint64(den)
		want.Add(want.Mul(want, n), product)
		product.Mul(product, n)
	}
	wantValue(t, "P3.2: Sum", rat.Sum(l...), new(big.Rat).SetFrac(want, product))
}
