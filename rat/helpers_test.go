package rat_test

import (
	"math/big"
	"math/rand"
	"slices"
	"testing"

	"glean/api"
	"glean/dec"
	"glean/nat"
	"glean/rat"
)

const top = ^uint64(0)

// scale: what a Raw is divided by, reckoned by none of the project's calls.
var scale = new(big.Int).Exp(big.NewInt(10), big.NewInt(36), nil)

// hair: the least Dec above 0.
var hair = api.Dec{Raw: api.Nat{1}}

// small tells a fraction of two limbs, as it stands: not reduced.
func small(num, den uint64) api.Rat { return api.Rat{Num: api.Nat{num}, Den: api.Nat{den}} }

// noughts: every sort of Rat that counts as 0.
func noughts() []api.Rat {
	return []api.Rat{
		{}, {Num: api.Nat{}, Den: api.Nat{}}, {Num: api.Nat{5}}, {Num: api.Nat{5}, Den: api.Nat{0}}, {Num: api.Nat{0, 1}, Den: api.Nat{0, 0}},
		{Den: api.Nat{1}}, {Num: api.Nat{0, 0}, Den: api.Nat{7}}, small(0, 0), {Num: api.Nat{0}, Den: api.Nat{0, 0, 3, 0}},
	}
}

// whole reads a Nat.
func whole(a api.Nat) *big.Int { return new(big.Int).SetBytes(nat.Bytes(a)) }

// limbs makes the Nat of a value.
func limbs(x *big.Int) api.Nat {
	a, _ := nat.FromBytes(x.Bytes())
	return a
}

// value reads a Rat by its value's definition.
func value(a api.Rat) *big.Rat {
	if den := whole(a.Den); den.Sign() > 0 {
		return new(big.Rat).SetFrac(whole(a.Num), den)
	}
	return new(big.Rat)
}

// number draws a number of up to so many bits, a small one every now and then.
func number(r *rand.Rand, most int) *big.Int {
	if r.Intn(5) == 0 {
		return big.NewInt(int64(r.Intn(4)))
	}
	return new(big.Int).Rand(r, new(big.Int).Lsh(big.NewInt(1), uint(r.Intn(most+1))))
}

// sample draws a Rat: reduced ones and others, whole ones, Decs, ones without a denominator; some parts aren't normal.
func sample(r *rand.Rand) api.Rat {
	num, den := number(r, 300), number(r, 300)
	switch r.Intn(6) {
	case 0:
		den.SetInt64(1)
	case 1:
		den.Set(scale)
	case 2:
		common := number(r, 200)
		num.Mul(num, common)
		den.Mul(den, common)
	case 3:
		num.Mul(num, den)
	}
	a := api.Rat{Num: limbs(num), Den: limbs(den)}
	if r.Intn(4) == 0 {
		a.Num = append(a.Num, make(api.Nat, r.Intn(3))...)
		a.Den = append(a.Den, make(api.Nat, r.Intn(3))...)
	}
	return a
}

// wantNat fails unless got is normal and of that value.
func wantNat(t *testing.T, what string, got api.Nat, want *big.Int) {
	t.Helper()
	if n := len(got); n > 0 && got[n-1] == 0 {
		t.Fatalf("%s: %v isn't normal", what, got)
	}
	if whole(got).Cmp(want) != 0 {
		t.Fatalf("%s: %s, not %s", what, whole(got), want)
	}
}

// wantValue fails unless got is reduced and of that value; a big.Rat is reduced, so that its parts are to be got's.
func wantValue(t *testing.T, what string, got api.Rat, want *big.Rat) {
	t.Helper()
	wantNat(t, what+": the numerator", got.Num, want.Num())
	wantNat(t, what+": the denominator", got.Den, want.Denom())
}

// wantSmall fails unless got is num / den to the limb, both being small.
func wantSmall(t *testing.T, what string, got api.Rat, num, den uint64) {
	t.Helper()
	var n api.Nat
	if num > 0 {
		n = api.Nat{num}
	}
	if !slices.Equal(got.Num, n) || !slices.Equal(got.Den, api.Nat{den}) {
		t.Fatalf("%s: %v, not %d / %d", what, got, num, den)
	}
}

// wantSame fails unless got and want, both answered, are equal Rats.
func wantSame(t *testing.T, what string, got, want api.Rat) {
	t.Helper()
	if !slices.Equal(got.Num, want.Num) || !slices.Equal(got.Den, want.Den) {
		t.Fatalf("%s: %v, not %v", what, got, want)
	}
}

// wantError fails unless the answer is that error, and zero beside it.
func wantError(t *testing.T, what string, got api.Rat, e, want api.Errno) {
	t.Helper()
	if e != want || len(got.Num) != 0 || len(got.Den) != 0 {
		t.Errorf("%s: %v, %v, not the error %v", what, got, e, want)
	}
}

// answered takes a result that must not be refused.
func answered(t *testing.T) func(api.Rat, api.Errno) api.Rat {
	return func(a api.Rat, e api.Errno) api.Rat {
		t.Helper()
		if e != api.OK {
			t.Fatalf("refused: %v", e)
		}
		return a
	}
}

// lowest tells the reduced Rat of a's value.
func lowest(a api.Rat) api.Rat { return rat.Sum(a) }

// parsed reads a text that must be a Dec.
func parsed(t *testing.T, s string) api.Dec {
	t.Helper()
	d, e := dec.Parse(s)
	if e != api.OK {
		t.Fatalf("Parse(%q): %v", s, e)
	}
	return d
}
