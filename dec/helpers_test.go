package dec_test

import (
	"math/big"
	"math/rand"
	"slices"
	"testing"

	"glean/api"
	"glean/dec"
)

const top = ^uint64(0)

// scale: what a Raw is divided by, reckoned by none of the project's calls.
var scale = new(big.Int).Exp(big.NewInt(10), big.NewInt(36), nil)

// least: the least Dec above 0.
var least = api.Dec{Raw: api.Nat{1}}

// raw tells a Dec of limbs.
func raw(limbs ...uint64) api.Dec { return api.Dec{Raw: limbs} }

// parsed reads a text that must be a Dec.
func parsed(t *testing.T, s string) api.Dec {
	t.Helper()
	d, e := dec.Parse(s)
	if e != api.OK {
		t.Fatalf("P2.4: Parse(%q): %v", s, e)
	}
	return d
}

// value reads a Nat by its value's definition.
func value(a api.Nat) *big.Int {
	z := new(big.Int)
	for _, limb := range slices.Backward(a) {
		z.Lsh(z, 64)
		z.Or(z, new(big.Int).SetUint64(limb))
	}
	return z
}

// limbsOf makes the Nat of a value.
func limbsOf(x *big.Int) api.Nat {
	var a api.Nat
	mask := new(big.Int).SetUint64(top)
	for rest := new(big.Int).Set(x); rest.Sign() > 0; rest.Rsh(rest, 64) {
		a = append(a, new(big.Int).And(rest, mask).Uint64())
	}
	return a
}

// product tells a b.
func product(a, b *big.Int) *big.Int { return new(big.Int).Mul(a, b) }

// sample draws a Dec: whole ones, ones by a hair beside a whole one, ones below 1, and any, some of them not normal.
func sample(r *rand.Rand) api.Dec {
	x := new(big.Int).Rand(r, new(big.Int).Lsh(big.NewInt(1), uint(r.Intn(400))))
	switch r.Intn(6) {
	case 0:
		x = product(x, scale)
	case 1:
		x = product(x, scale)
		x.Add(x, big.NewInt(1))
	case 2:
		x = product(x.Add(x, big.NewInt(1)), scale)
		x.Sub(x, big.NewInt(1))
	case 3:
		x.Mod(x, scale)
	case 4:
		x.SetUint64(uint64(r.Intn(3)))
	}
	a := limbsOf(x)
	if r.Intn(4) == 0 {
		a = append(a, make(api.Nat, 1+r.Intn(2))...)
	}
	return api.Dec{Raw: a}
}

// wantRaw fails unless got's Raw is normal and of that value.
func wantRaw(t *testing.T, what string, got api.Dec, want *big.Int) {
	t.Helper()
	if n := len(got.Raw); n > 0 && got.Raw[n-1] == 0 {
		t.Fatalf("%s: %v isn't normal", what, got.Raw)
	}
	if value(got.Raw).Cmp(want) != 0 {
		t.Fatalf("%s: %s, not %s", what, value(got.Raw), want)
	}
}

// wantDec fails unless got is want, normal.
func wantDec(t *testing.T, what string, got, want api.Dec) {
	t.Helper()
	wantRaw(t, what, got, value(want.Raw))
}

// wantError fails unless the answer is that error, and zero beside it.
func wantError(t *testing.T, what string, got api.Dec, e, want api.Errno) {
	t.Helper()
	if e != want || len(got.Raw) != 0 {
		t.Errorf("%s: %v, %v, not the error %v", what, got.Raw, e, want)
	}
}
