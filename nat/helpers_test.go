package nat_test

import (
	"math/big"
	"math/rand"
	"slices"
	"testing"

	"glean/api"
)

const top = ^uint64(0)

// edges: limbs at which carries, borrows and guesses go wrong first.
var edges = []uint64{0, 1, 2, 1<<32 - 1, 1 << 32, 1<<63 - 1, 1 << 63, 1<<63 + 1, top - 1, top}

// toBig reads a Nat by its value's definition, by none of the package's calls.
func toBig(a api.Nat) *big.Int {
	z := new(big.Int)
	for i, limb := range a {
		term := new(big.Int).SetUint64(limb)
		z.Add(z, term.Lsh(term, uint(64*i)))
	}
	return z
}

// sample draws a Nat of at most most limbs, often with edges, runs of one limb, or noughts at its end.
func sample(r *rand.Rand, most int) api.Nat {
	a := make(api.Nat, r.Intn(most+1))
	for i := range a {
		switch r.Intn(4) {
		case 0:
			a[i] = edges[r.Intn(len(edges))]
		case 1:
			a[i] = r.Uint64() >> r.Intn(64)
		case 2:
			if i > 0 {
				a[i] = a[i-1]
			}
		default:
			a[i] = r.Uint64()
		}
	}
	if r.Intn(4) == 0 {
		a = append(a, make(api.Nat, 1+r.Intn(2))...)
	}
	return a
}

// wantValue fails unless got is the normal Nat of want's value.
func wantValue(t *testing.T, what string, got api.Nat, want *big.Int) {
	t.Helper()
	if len(got) > 0 && got[len(got)-1] == 0 {
		t.Fatalf("%s: %v isn't normal", what, got)
	}
	if toBig(got).Cmp(want) != 0 {
		t.Fatalf("%s: %v (%s), not %s", what, got, toBig(got), want)
	}
}

// wantNat fails unless got is want, limb by limb.
func wantNat(t *testing.T, what string, got, want api.Nat) {
	t.Helper()
	if !slices.Equal(got, want) {
		t.Errorf("%s: %v, not %v", what, got, want)
	}
}
