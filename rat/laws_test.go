package rat_test

import (
	"math/rand"
	"testing"

	"glean/api"
	"glean/dec"
	"glean/rat"
)

// P3.4: one value, made in several ways, is one Rat.
func TestEqualValuesAreEqualRats(t *testing.T) {
	r := rand.New(rand.NewSource(5))
	ok := answered(t)
	for range 2000 {
		a, b := lowest(sample(r)), lowest(sample(r))
		if rat.Zero(b) {
			continue
		}
		half := ok(rat.Quo(a, small(2, 1)))
		wantSame(t, "P3.4: its halves", rat.Add(half, half), a)
		wantSame(t, "P3.4: twice its half", rat.Mul(small(2, 1), half), a)
		wantSame(t, "P3.4: its parts by one another", ok(rat.Of(a.Num, a.Den)), a)
		wantSame(t, "P3.4: its parts, each times b", ok(rat.Quo(rat.Mul(rat.OfNat(a.Num), b), rat.Mul(rat.OfNat(a.Den), b))), a)
		wantSame(t, "P3.4: nothing", ok(rat.Sub(a, a)), rat.Sum())
		if (rat.Cmp(a, b) == 0) != (value(a).Cmp(value(b)) == 0) {
			t.Fatalf("P3.4: Cmp(%v, %v): %d", a, b, rat.Cmp(a, b))
		}
	}
}

// P3.4
func TestOrder(t *testing.T) {
	r := rand.New(rand.NewSource(6))
	for range 2000 {
		a, b, c := sample(r), sample(r), sample(r)
		wantSame(t, "P3.4: a + b", rat.Add(a, b), rat.Add(b, a))
		wantSame(t, "P3.4: a b", rat.Mul(a, b), rat.Mul(b, a))
		wantSame(t, "P3.4: a + b + c", rat.Add(rat.Add(a, b), c), rat.Add(a, rat.Add(b, c)))
		wantSame(t, "P3.4: a b c", rat.Mul(rat.Mul(a, b), c), rat.Mul(a, rat.Mul(b, c)))
		wantSame(t, "P3.4: Sum", rat.Sum(a, b, c), rat.Sum(c, a, b))
		wantSame(t, "P3.4: a (b + c)", rat.Mul(a, rat.Add(b, c)), rat.Add(rat.Mul(a, b), rat.Mul(a, c)))
	}
}

// P3.4
func TestThereAndBack(t *testing.T) {
	r := rand.New(rand.NewSource(7))
	ok := answered(t)
	for range 2000 {
		a, b := sample(r), sample(r)
		wantSame(t, "P3.4: a + b - b", ok(rat.Sub(rat.Add(a, b), b)), lowest(a))
		if !rat.Zero(b) {
			wantSame(t, "P3.4: a b / b", ok(rat.Quo(rat.Mul(a, b), b)), lowest(a))
		}
		left, e := rat.Sub(a, b)
		if above := e == api.OK && !rat.Zero(left); above != (rat.Cmp(a, b) == 1) {
			t.Fatalf("P3.4: Cmp(%v, %v): %d, but a - b: %v, %v", a, b, rat.Cmp(a, b), left, e)
		}
	}
}

// drawn draws a Dec: a few places, a few limbs, whole ones.
func drawn(r *rand.Rand) api.Dec {
	switch a := sample(r); r.Intn(3) {
	case 0:
		return dec.OfNat(a.Num)
	case 1:
		return rat.Down(a)
	default:
		return api.Dec{Raw: a.Num}
	}
}

// P3.5
func TestDecsAndBack(t *testing.T) {
	r := rand.New(rand.NewSource(8))
	for range 3000 {
		d := drawn(r)
		wantNat(t, "P3.5: Down(OfDec(d))", rat.Down(rat.OfDec(d)).Raw, whole(d.Raw))
		a := sample(r)
		down := rat.OfDec(rat.Down(a))
		if rat.Cmp(down, a) > 0 {
			t.Fatalf("P3.5: Down(%v) is above it", a)
		}
		if rat.Cmp(rat.Add(down, rat.OfDec(hair)), a) <= 0 {
			t.Fatalf("P3.5: Down(%v) is too far below it", a)
		}
	}
}

// P3.5: what dec rounds down is Down of what rat reckons exactly.
func TestDecsRoundedAreDown(t *testing.T) {
	r := rand.New(rand.NewSource(9))
	ok := answered(t)
	for range 3000 {
		a, b, c := drawn(r), drawn(r), drawn(r)
		if dec.Zero(c) {
			continue
		}
		quotient, _ := dec.Quo(a, c)
		exact := ok(rat.Quo(rat.OfDec(a), rat.OfDec(c)))
		wantNat(t, "P3.5: a / c", quotient.Raw, whole(rat.Down(exact).Raw))
		quotient, _ = dec.MulDiv(a, b, c)
		exact = ok(rat.Quo(rat.Mul(rat.OfDec(a), rat.OfDec(b)), rat.OfDec(c)))
		wantNat(t, "P3.5: a b / c", quotient.Raw, whole(rat.Down(exact).Raw))
	}
}
