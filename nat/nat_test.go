package nat_test

import (
	"math"
	"math/big"
	"math/rand"
	"strings"
	"testing"

	"glean/api"
	"glean/nat"
)

// P1.1
func TestNormOfSmallBits(t *testing.T) {
	for _, x := range []struct {
		a, norm api.Nat
		small   uint64
		ok      bool
		bits    int
	}{
		{nil, nil, 0, true, 0},
		{api.Nat{}, nil, 0, true, 0},
		{api.Nat{0}, nil, 0, true, 0},
		{api.Nat{0, 0, 0}, nil, 0, true, 0},
		{api.Nat{1}, api.Nat{1}, 1, true, 1},
		{api.Nat{5, 0, 0}, api.Nat{5}, 5, true, 3},
		{api.Nat{top}, api.Nat{top}, top, true, 64},
		{api.Nat{top, 0}, api.Nat{top}, top, true, 64},
		{api.Nat{0, 1}, api.Nat{0, 1}, 0, false, 65},
		{api.Nat{7, 1, 0}, api.Nat{7, 1}, 0, false, 65},
		{api.Nat{0, 0, top, 0}, api.Nat{0, 0, top}, 0, false, 192},
		{api.Nat{1, 0, 1 << 63}, api.Nat{1, 0, 1 << 63}, 0, false, 192},
	} {
		wantNat(t, "P1.1: Norm", nat.Norm(x.a), x.norm)
		if small, ok := nat.Small(x.a); small != x.small || ok != x.ok {
			t.Errorf("P1.1: Small(%v): %d, %t", x.a, small, ok)
		}
		if got := nat.Bits(x.a); got != x.bits {
			t.Errorf("P1.1: Bits(%v): %d", x.a, got)
		}
	}
	wantNat(t, "P1.1: Of(0)", nat.Of(0), nil)
	wantNat(t, "P1.1: Of(1)", nat.Of(1), api.Nat{1})
	wantNat(t, "P1.1: Of(2^64 - 1)", nat.Of(top), api.Nat{top})
}

// P1.1
func TestCmp(t *testing.T) {
	for _, x := range []struct {
		a, b api.Nat
		want int
	}{
		{nil, nil, 0},
		{nil, api.Nat{0, 0}, 0},
		{api.Nat{5}, api.Nat{5, 0, 0}, 0},
		{api.Nat{0, 1}, api.Nat{0, 1, 0}, 0},
		{nil, api.Nat{1}, -1},
		{api.Nat{0, 0, 0}, api.Nat{1}, -1},
		{api.Nat{9}, api.Nat{0, 1}, -1},
		{api.Nat{top}, api.Nat{0, 1}, -1},
		{api.Nat{top, 1}, api.Nat{0, 2}, -1},
		{api.Nat{0, 2}, api.Nat{1, 2}, -1},
		{api.Nat{0, top, 0, 0}, api.Nat{0, 0, 1}, -1},
		{api.Nat{1<<63 - 1}, api.Nat{1 << 63}, -1},
		{api.Nat{1}, api.Nat{top}, -1},
	} {
		if got := nat.Cmp(x.a, x.b); got != x.want {
			t.Errorf("P1.1: Cmp(%v, %v): %d", x.a, x.b, got)
		}
		if got := nat.Cmp(x.b, x.a); got != -x.want {
			t.Errorf("P1.1: Cmp(%v, %v): %d", x.b, x.a, got)
		}
	}
}

// P1.2
func TestAddSubMulByHand(t *testing.T) {
	for _, x := range []struct{ a, b, sum, product api.Nat }{
		{nil, nil, nil, nil},
		{nil, api.Nat{0, 0}, nil, nil},
		{api.Nat{0, 0, 5}, nil, api.Nat{0, 0, 5}, nil},
		{api.Nat{0, 0, 5}, api.Nat{1, 0}, api.Nat{1, 0, 5}, api.Nat{0, 0, 5}},
		{api.Nat{top}, api.Nat{1}, api.Nat{0, 1}, api.Nat{top}},
		{api.Nat{top}, api.Nat{top}, api.Nat{top - 1, 1}, api.Nat{1, top - 1}},
		{api.Nat{top, top, top}, api.Nat{1}, api.Nat{0, 0, 0, 1}, api.Nat{top, top, top}},
		{api.Nat{top, 0, top}, api.Nat{1}, api.Nat{0, 1, top}, api.Nat{top, 0, top}},
		{api.Nat{top, top}, api.Nat{top, top}, api.Nat{top - 1, top, 1}, api.Nat{1, 0, top - 1, top}},
		{api.Nat{0, 1}, api.Nat{0, 0, 1}, api.Nat{0, 1, 1}, api.Nat{0, 0, 0, 1}},
	} {
		wantNat(t, "P1.2: Add", nat.Add(x.a, x.b), x.sum)
		wantNat(t, "P1.2: Add, turned", nat.Add(x.b, x.a), x.sum)
		wantNat(t, "P1.2: Mul", nat.Mul(x.a, x.b), x.product)
		wantNat(t, "P1.2: Mul, turned", nat.Mul(x.b, x.a), x.product)
	}
	for _, x := range []struct{ a, b, want api.Nat }{
		{nil, nil, nil},
		{api.Nat{0, 0}, nil, nil},
		{api.Nat{5}, api.Nat{5, 0, 0}, nil},
		{api.Nat{5, 0}, nil, api.Nat{5}},
		{api.Nat{0, 1}, api.Nat{1}, api.Nat{top}},
		{api.Nat{0, 0, 0, 1}, api.Nat{1, 0, 0, 0, 0}, api.Nat{top, top, top}},
		{api.Nat{0, 0, 1}, api.Nat{top, top}, api.Nat{1}},
		{api.Nat{3, 7}, api.Nat{2, 7}, api.Nat{1}},
	} {
		got, e := nat.Sub(x.a, x.b)
		if e != api.OK {
			t.Errorf("P1.2: Sub(%v, %v): %v", x.a, x.b, e)
		}
		wantNat(t, "P1.2: Sub", got, x.want)
	}
}

// P1.2
func TestSubBelow(t *testing.T) {
	for _, x := range []struct{ a, b api.Nat }{
		{nil, api.Nat{1}},
		{api.Nat{0, 0, 0}, api.Nat{1}},
		{api.Nat{1}, api.Nat{2}},
		{api.Nat{top}, api.Nat{0, 1}},
		{api.Nat{0, 1}, api.Nat{1, 1}},
		{api.Nat{top, 0, 0, 0}, api.Nat{0, 1}},
	} {
		if got, e := nat.Sub(x.a, x.b); e != api.ErrNatBelow || len(got) != 0 {
			t.Errorf("P1.2: Sub(%v, %v): %v, %v", x.a, x.b, got, e)
		}
	}
}

// P1.2: the guesses of the long division that must be corrected stand among these.
func TestDivModByHand(t *testing.T) {
	const half = 1 << 63
	for _, x := range []struct{ a, b, q, r api.Nat }{
		{nil, api.Nat{1}, nil, nil},
		{api.Nat{0, 0}, api.Nat{0, 3}, nil, nil},
		{api.Nat{5, 0}, api.Nat{5, 0, 0}, api.Nat{1}, nil},
		{api.Nat{4}, api.Nat{5}, nil, api.Nat{4}},
		{api.Nat{3}, api.Nat{0, 1}, nil, api.Nat{3}},
		{api.Nat{7}, api.Nat{2, 0}, api.Nat{3}, api.Nat{1}},
		{api.Nat{0, 0, 1}, api.Nat{0, 1}, api.Nat{0, 1}, nil},
		{api.Nat{top, top}, api.Nat{top}, api.Nat{1, 1}, nil},
		{api.Nat{top, top, 0}, api.Nat{1}, api.Nat{top, top}, nil},
		{api.Nat{0, top, top}, api.Nat{0, top, top}, api.Nat{1}, nil},
		{api.Nat{0, 0, half}, api.Nat{1, half}, api.Nat{top}, api.Nat{1, half - 1}},
		{api.Nat{0, top - 1, half}, api.Nat{top, half}, api.Nat{top}, api.Nat{top, half - 1}},
		{api.Nat{3, 0, half}, api.Nat{1, 0, 1 << 61}, api.Nat{3}, api.Nat{0, 0, 1 << 61}},
		{api.Nat{0, 0, half, half - 1}, api.Nat{1, 0, half}, api.Nat{top - 1}, api.Nat{2, top, half - 1}},
	} {
		q, r, e := nat.DivMod(x.a, x.b)
		if e != api.OK {
			t.Errorf("P1.2: DivMod(%v, %v): %v", x.a, x.b, e)
		}
		wantNat(t, "P1.2: DivMod, the quotient", q, x.q)
		wantNat(t, "P1.2: DivMod, what is left", r, x.r)
	}
}

// P1.2
func TestDivideByNought(t *testing.T) {
	for _, a := range []api.Nat{nil, {0}, {1}, {0, 1}} {
		for _, b := range []api.Nat{nil, {}, {0}, {0, 0, 0}} {
			if q, r, e := nat.DivMod(a, b); e != api.ErrNatZero || len(q)+len(r) != 0 {
				t.Errorf("P1.2: DivMod(%v, %v): %v, %v, %v", a, b, q, r, e)
			}
			if q, r, e := nat.MulDiv(a, api.Nat{3}, b); e != api.ErrNatZero || len(q)+len(r) != 0 {
				t.Errorf("P1.2: MulDiv(%v, 3, %v): %v, %v, %v", a, b, q, r, e)
			}
		}
	}
}

// P1.2: every dividend of four and divisor of three limbs at the edges.
func TestDivModAtEdges(t *testing.T) {
	some := []uint64{0, 1, 1<<63 - 1, 1 << 63, top}
	limbs := func(x, n int) api.Nat {
		a := make(api.Nat, n)
		for i := range a {
			a[i], x = some[x%len(some)], x/len(some)
		}
		return a
	}
	for i := range 5 * 5 * 5 * 5 {
		a := limbs(i, 4)
		wholeA := toBig(a)
		for j := 1; j < 5*5*5; j++ {
			b := limbs(j, 3)
			q, r, e := nat.DivMod(a, b)
			if e != api.OK {
				t.Fatalf("P1.2: DivMod(%v, %v): %v", a, b, e)
			}
			wantQ, wantR := new(big.Int).QuoRem(wholeA, toBig(b), new(big.Int))
			wantValue(t, "P1.2: DivMod, the quotient", q, wantQ)
			wantValue(t, "P1.2: DivMod, what is left", r, wantR)
		}
	}
}

// P1.2 and P1.1, against another arithmetic.
func TestReckonAtRandom(t *testing.T) {
	r := rand.New(rand.NewSource(1))
	for range 20000 {
		a, b, c := sample(r, 9), sample(r, 6), sample(r, 8)
		x, y, z := toBig(a), toBig(b), toBig(c)
		wantValue(t, "P1.1: Norm", nat.Norm(a), x)
		if got := nat.Cmp(a, b); got != x.Cmp(y) {
			t.Fatalf("P1.1: Cmp(%v, %v): %d", a, b, got)
		}
		if got := nat.Bits(a); got != x.BitLen() {
			t.Fatalf("P1.1: Bits(%v): %d", a, got)
		}
		wantValue(t, "P1.2: Add", nat.Add(a, b), new(big.Int).Add(x, y))
		product := new(big.Int).Mul(x, y)
		wantValue(t, "P1.2: Mul", nat.Mul(a, b), product)
		if x.Cmp(y) >= 0 {
			got, _ := nat.Sub(a, b)
			wantValue(t, "P1.2: Sub", got, new(big.Int).Sub(x, y))
		}
		if z.Sign() == 0 {
			continue
		}
		q, left, _ := nat.DivMod(a, c)
		wantQ, wantLeft := new(big.Int).QuoRem(x, z, new(big.Int))
		wantValue(t, "P1.2: DivMod, the quotient", q, wantQ)
		wantValue(t, "P1.2: DivMod, what is left", left, wantLeft)
		q, left, _ = nat.MulDiv(a, b, c)
		wantQ, wantLeft = new(big.Int).QuoRem(product, z, new(big.Int))
		wantValue(t, "P1.2: MulDiv, the quotient", q, wantQ)
		wantValue(t, "P1.2: MulDiv, what is left", left, wantLeft)
	}
}

// P1.3
func TestGcdByHand(t *testing.T) {
	for _, x := range []struct{ a, b, want api.Nat }{
		{nil, nil, nil},
		{api.Nat{0, 0}, api.Nat{0}, nil},
		{nil, api.Nat{5, 0}, api.Nat{5}},
		{api.Nat{0}, api.Nat{0, 5, 0}, api.Nat{0, 5}},
		{api.Nat{12}, api.Nat{18}, api.Nat{6}},
		{api.Nat{17}, api.Nat{0, 17}, api.Nat{17}},
		{api.Nat{1}, api.Nat{top, top, top}, api.Nat{1}},
		{api.Nat{top, top}, api.Nat{top, top, 0}, api.Nat{top, top}},
		{api.Nat{0, 0, 6}, api.Nat{0, 9}, api.Nat{0, 3}},
		{api.Nat{0, 0, 0, 0, 0, 1}, api.Nat{1, 1}, api.Nat{1}},
		{api.Nat{0, 1 << 63}, api.Nat{top, 1<<63 - 1}, api.Nat{1}},
	} {
		wantNat(t, "P1.3: Gcd", nat.Gcd(x.a, x.b), x.want)
		wantNat(t, "P1.3: Gcd, turned", nat.Gcd(x.b, x.a), x.want)
	}
}

// P1.3: neighbours of this row take the most steps of all.
func TestGcdOfFibonacci(t *testing.T) {
	a, b := nat.Of(1), nat.Of(1)
	factor := api.Nat{top, 3, 1 << 63}
	for range 1500 {
		a, b = b, nat.Add(a, b)
	}
	wantNat(t, "P1.3: Gcd", nat.Gcd(a, b), api.Nat{1})
	wantNat(t, "P1.3: Gcd", nat.Gcd(nat.Mul(a, factor), nat.Mul(factor, b)), factor)
}

// P1.3
func TestGcdAtRandom(t *testing.T) {
	r := rand.New(rand.NewSource(2))
	for i := range 20000 {
		factor := sample(r, i%4)
		a, b := nat.Mul(sample(r, 1+i%9), factor), sample(r, 1+i%7)
		if i%3 > 0 {
			b = nat.Mul(b, factor)
		}
		wantValue(t, "P1.3: Gcd", nat.Gcd(a, b), new(big.Int).GCD(nil, nil, toBig(a), toBig(b)))
	}
}

// P1.3
func TestPow10(t *testing.T) {
	want := api.Nat{1}
	for n := range api.MaxPow + 1 {
		got, e := nat.Pow10(n)
		if e != api.OK || nat.Cmp(got, want) != 0 || got[len(got)-1] == 0 {
			t.Fatalf("P1.3: Pow10(%d): %v, %v", n, got, e)
		}
		want = nat.Mul(want, api.Nat{10})
	}
	got, _ := nat.Pow10(20)
	wantNat(t, "P1.3: Pow10(20)", got, api.Nat{7766279631452241920, 5})
	got, _ = nat.Pow10(api.MaxPow)
	if nat.Text(got) != "1"+strings.Repeat("0", api.MaxPow) {
		t.Errorf("P1.3: Pow10(MaxPow): %s", nat.Text(got))
	}
	for _, n := range []int{-1, api.MaxPow + 1, math.MinInt, math.MaxInt} {
		if got, e := nat.Pow10(n); e != api.ErrNatPow || len(got) != 0 {
			t.Errorf("P1.3: Pow10(%d): %v, %v", n, got, e)
		}
	}
}
