package ledger_test

import (
	"math/big"
	"slices"
	"testing"

	"glean/api"
	"glean/dec"
	"glean/ledger"
)

const (
	top  = ^uint64(0)
	most = int(^uint(0) >> 1)
)

// scale: what a Raw is divided by, reckoned by none of the project's calls.
var scale = new(big.Int).Exp(big.NewInt(10), big.NewInt(36), nil)

// whole tells a number as another arithmetic has it.
func whole(x uint64) *big.Int { return new(big.Int).SetUint64(x) }

// value tells a Nat by its value's definition.
func value(n api.Nat) *big.Int {
	z := new(big.Int)
	for _, limb := range slices.Backward(n) {
		z.Lsh(z, 64).Or(z, whole(limb))
	}
	return z
}

// natOf makes the normal Nat of a value.
func natOf(x *big.Int) api.Nat {
	var n api.Nat
	for rest := new(big.Int).Set(x); rest.Sign() > 0; rest.Rsh(rest, 64) {
		n = append(n, new(big.Int).And(rest, whole(top)).Uint64())
	}
	return n
}

// ratOf makes the Rat of a value, reduced as a big.Rat is.
func ratOf(x *big.Rat) api.Rat { return api.Rat{Num: natOf(x.Num()), Den: natOf(x.Denom())} }

// decValue tells a Dec by its value's definition.
func decValue(d api.Dec) *big.Rat { return new(big.Rat).SetFrac(value(d.Raw), scale) }

// fraction tells num / den.
func fraction(num, den int64) *big.Rat { return big.NewRat(num, den) }

// parsed reads a text that must be a Dec.
func parsed(t *testing.T, s string) api.Dec {
	t.Helper()
	d, e := dec.Parse(s)
	if e != api.OK {
		t.Fatalf("P2.4: Parse(%q): %v", s, e)
	}
	return d
}

// sameRat tells whether two Rats are the same, to the limb.
func sameRat(x, y api.Rat) bool { return slices.Equal(x.Num, y.Num) && slices.Equal(x.Den, y.Den) }

// wantRat fails unless a Rat is reduced and of that value.
func wantRat(t *testing.T, what string, got api.Rat, want *big.Rat) {
	t.Helper()
	if !sameRat(got, ratOf(want)) {
		t.Fatalf("%s: %v, not %s", what, got, want)
	}
}

// wantStake fails unless a stake is of that value, and that is owed to it.
func wantStake(t *testing.T, what string, l *ledger.Ledger, val, del uint64, worth, owed *big.Rat) {
	t.Helper()
	wantRat(t, what+": Stake", l.Stake(val, del), worth)
	wantRat(t, what+": Owed", l.Owed(val, del), owed)
}

// wantAll fails unless a validator's stakes are of that value together, and that is owed to them.
func wantAll(t *testing.T, what string, l *ledger.Ledger, val uint64, worth, owed *big.Rat) {
	t.Helper()
	wantRat(t, what+": Stakes", l.Stakes(val), worth)
	wantRat(t, what+": Owes", l.Owes(val), owed)
}

// wantSettled fails unless Settle tells that.
func wantSettled(t *testing.T, what string, l *ledger.Ledger, val, del uint64, owed *big.Rat, periods, cuts int) {
	t.Helper()
	e, p, k := l.Settle(val, del)
	wantRat(t, what+": Settle", e, owed)
	if p != periods || k != cuts {
		t.Fatalf("%s: %d periods and %d cuts, not %d and %d", what, p, k, periods, cuts)
	}
}

// ratValue tells a number as a fraction.
func ratValue(x uint64) *big.Rat { return new(big.Rat).SetInt(whole(x)) }

// none: what is told of stakes that aren't there.
func none() *big.Rat { return new(big.Rat) }

// three makes a ledger of one validator with two stakes, and one of another validator's.
func three() *ledger.Ledger {
	l := ledger.New()
	l.Hold(16, 17, dec.Of(1), dec.Of(3), 10)
	l.Hold(16, 18, dec.Of(2), dec.Of(3), 10)
	l.Hold(19, 17, dec.Of(3), dec.Of(4), 8)
	return l
}
