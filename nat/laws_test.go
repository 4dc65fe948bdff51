package nat_test

import (
	"bytes"
	"cmp"
	"math/rand"
	"testing"

	"glean/api"
	"glean/nat"
)

// same fails unless both are one normal Nat.
func same(t *testing.T, law string, a, b api.Nat) {
	t.Helper()
	if len(a) > 0 && a[len(a)-1] == 0 || nat.Cmp(a, b) != 0 || len(a) != len(b) {
		t.Fatalf("%s: %v and %v", law, a, b)
	}
}

// P1.5
func TestLawsOfAddAndMul(t *testing.T) {
	r := rand.New(rand.NewSource(4))
	for range 5000 {
		a, b, c := sample(r, 6), sample(r, 5), sample(r, 7)
		same(t, "P1.5: a + b is b + a", nat.Add(a, b), nat.Add(b, a))
		same(t, "P1.5: a b is b a", nat.Mul(a, b), nat.Mul(b, a))
		same(t, "P1.5: (a + b) + c is a + (b + c)", nat.Add(nat.Add(a, b), c), nat.Add(a, nat.Add(b, c)))
		same(t, "P1.5: (a b) c is a (b c)", nat.Mul(nat.Mul(a, b), c), nat.Mul(a, nat.Mul(b, c)))
		same(t, "P1.5: a (b + c) is a b + a c", nat.Mul(a, nat.Add(b, c)), nat.Add(nat.Mul(a, b), nat.Mul(a, c)))
		back, e := nat.Sub(nat.Add(a, b), b)
		if e != api.OK {
			t.Fatalf("P1.5: (%v + %v) - %v: %v", a, b, b, e)
		}
		same(t, "P1.5: (a + b) - b is a", back, nat.Norm(a))
	}
}

// P1.5
func TestLawsOfDivision(t *testing.T) {
	r := rand.New(rand.NewSource(5))
	for range 5000 {
		a, b, c := sample(r, 9), sample(r, 5), sample(r, 4)
		if nat.Bits(b) == 0 {
			continue
		}
		q, left, _ := nat.DivMod(a, b)
		same(t, "P1.5: q b + r is a", nat.Add(nat.Mul(q, b), left), nat.Norm(a))
		if nat.Cmp(left, b) >= 0 {
			t.Fatalf("P1.5: DivMod(%v, %v) leaves %v", a, b, left)
		}
		once, onceLeft, _ := nat.MulDiv(a, c, b)
		twice, twiceLeft, _ := nat.DivMod(nat.Mul(a, c), b)
		same(t, "P1.5: MulDiv is DivMod of Mul", once, twice)
		same(t, "P1.5: MulDiv leaves what DivMod of Mul leaves", onceLeft, twiceLeft)
		// A dividend just below, at and above a multiple is where a digit is one too great or too small.
		multiple := nat.Mul(a, b)
		q, left, _ = nat.DivMod(multiple, b)
		same(t, "P1.5: a b by b is a", q, nat.Norm(a))
		same(t, "P1.5: a b by b leaves nothing", left, nil)
		if less, e := nat.Sub(multiple, api.Nat{1}); e == api.OK {
			q, left, _ = nat.DivMod(less, b)
			same(t, "P1.5: a b - 1 by b is a - 1", nat.Add(q, api.Nat{1}), nat.Norm(a))
			same(t, "P1.5: a b - 1 by b leaves b - 1", nat.Add(left, api.Nat{1}), nat.Norm(b))
		}
	}
}

// P1.5
func TestBytesRiseWithValues(t *testing.T) {
	r := rand.New(rand.NewSource(6))
	for i := range 5000 {
		a, b := sample(r, 3), sample(r, 3)
		if i%3 == 0 {
			b = nat.Add(a, api.Nat{uint64(i % 2)})
		}
		x, y := nat.Bytes(a), nat.Bytes(b)
		order := cmp.Compare(len(x), len(y))
		if order == 0 {
			order = bytes.Compare(x, y)
		}
		if order != nat.Cmp(a, b) {
			t.Fatalf("P1.5: Bytes of %v and %v: %v, %v", a, b, x, y)
		}
	}
}

// P1.6
func TestLawsOfGcd(t *testing.T) {
	r := rand.New(rand.NewSource(7))
	for i := range 5000 {
		factor := sample(r, i%5)
		a, b := nat.Mul(sample(r, 5), factor), nat.Mul(sample(r, 6), factor)
		if i%7 == 0 {
			b = nat.Norm(a)
		}
		g := nat.Gcd(a, b)
		if nat.Bits(g) == 0 {
			if nat.Bits(a)+nat.Bits(b) != 0 {
				t.Fatalf("P1.6: Gcd(%v, %v) is 0", a, b)
			}
			continue
		}
		x, leftX, _ := nat.DivMod(a, g)
		y, leftY, _ := nat.DivMod(b, g)
		if len(leftX)+len(leftY) != 0 {
			t.Fatalf("P1.6: Gcd(%v, %v) is %v: it leaves %v, %v", a, b, g, leftX, leftY)
		}
		same(t, "P1.6: the quotients have no common divisor but 1", nat.Gcd(x, y), api.Nat{1})
	}
}
