package share_test

import (
	"math/big"
	"math/rand"
	"slices"
	"testing"

	"glean/api"
	"glean/dec"
)

const top = ^uint64(0)

// scale: what a Raw is divided by; most: the Raw of 10^54, reckoned by none of the project's calls.
var (
	scale = new(big.Int).Exp(big.NewInt(10), big.NewInt(36), nil)
	most  = new(big.Int).Exp(big.NewInt(10), big.NewInt(90), nil)
)

// raw tells a Dec of limbs.
func raw(limbs ...uint64) api.Dec { return api.Dec{Raw: limbs} }

// parsed reads a text that must be a Dec.
func parsed(t *testing.T, s string) api.Dec {
	t.Helper()
	d, e := dec.Parse(s)
	if e != api.OK {
		t.Fatalf("P2.4: Parse(%q): %v", s, e)
	}
	return d
}

// whole tells a number as another arithmetic has it.
func whole(x uint64) *big.Int { return new(big.Int).SetUint64(x) }

// value tells a Dec's Raw by its value's definition.
func value(d api.Dec) *big.Int {
	z := new(big.Int)
	for _, limb := range slices.Backward(d.Raw) {
		z.Lsh(z, 64).Or(z, whole(limb))
	}
	return z
}

// decOf makes the Dec of a Raw's value.
func decOf(x *big.Int) api.Dec {
	var d api.Dec
	for rest := new(big.Int).Set(x); rest.Sign() > 0; rest.Rsh(rest, 64) {
		d.Raw = append(d.Raw, new(big.Int).And(rest, whole(top)).Uint64())
	}
	return d
}

// less tells a - b, b being the lesser one.
func less(a, b api.Dec) api.Dec { return decOf(new(big.Int).Sub(value(a), value(b))) }

// plus tells a + b.
func plus(a, b api.Dec) api.Dec { return decOf(new(big.Int).Add(value(a), value(b))) }

// times tells a b.
func times(a, b *big.Int) *big.Int { return new(big.Int).Mul(a, b) }

// low tells a b / c, rounded down; high, rounded up.
func low(a, b, c *big.Int) *big.Int { return new(big.Int).Quo(times(a, b), c) }

func high(a, b, c *big.Int) *big.Int {
	q, left := new(big.Int).QuoRem(times(a, b), c, new(big.Int))
	return q.Add(q, big.NewInt(int64(left.Sign())))
}

// wantIssue: what P10.1 says, by another arithmetic.
func wantIssue(tokens uint64, shares api.Dec, t uint64) (*big.Int, api.Errno) {
	s := value(shares)
	switch {
	case t == 0:
		return nil, 101
	case s.Sign() == 0:
		return times(whole(t), scale), 0
	case tokens == 0:
		return nil, 100
	}
	got := low(s, whole(t), whole(tokens))
	switch {
	case got.Sign() == 0:
		return nil, 101
	case new(big.Int).Add(got, s).Cmp(most) > 0:
		return nil, 103
	}
	return got, 0
}

// wantRedeem: what P10.2 says.
func wantRedeem(tokens uint64, shares, x api.Dec) (uint64, api.Errno) {
	switch value(x).Cmp(value(shares)) {
	case 1:
		return 0, 102
	case 0:
		return tokens, 0
	}
	return low(value(x), whole(tokens), value(shares)).Uint64(), 0
}

// wantNeed: what P10.3 says.
func wantNeed(tokens uint64, shares api.Dec, t uint64) (*big.Int, api.Errno) {
	switch {
	case t > tokens:
		return nil, 102
	case tokens == 0:
		return nil, 100
	}
	return high(value(shares), whole(t), whole(tokens)), 0
}

// wantWorth: what P10.4 says.
func wantWorth(tokens uint64, shares, x api.Dec) *big.Int {
	if value(shares).Sign() == 0 {
		return new(big.Int)
	}
	return low(value(x), times(whole(tokens), scale), value(shares))
}

// sameDec fails unless got is normal, of that value, and beside that error.
func sameDec(t *testing.T, what string, got api.Dec, e api.Errno, want *big.Int, wantE api.Errno) {
	t.Helper()
	if n := len(got.Raw); n > 0 && got.Raw[n-1] == 0 {
		t.Fatalf("%s: %v isn't normal", what, got.Raw)
	}
	if wantE != api.OK {
		want = new(big.Int)
	}
	if e != wantE || value(got).Cmp(want) != 0 {
		t.Fatalf("%s: %s, %v, not %s, %v", what, value(got), e, want, wantE)
	}
}

// sameNumber fails unless the answer is that number beside that error.
func sameNumber(t *testing.T, what string, got uint64, e api.Errno, want uint64, wantE api.Errno) {
	t.Helper()
	if e != wantE || got != want {
		t.Fatalf("%s: %d, %v, not %d, %v", what, got, e, want, wantE)
	}
}

// counts tells numbers of tokens at which a bound or a product could go wrong.
func counts() []uint64 {
	return []uint64{0, 1, 2, 3, 7, 10, 9999, 10000, 10001, 1<<32 + 1, api.MaxSupply - 1, api.MaxSupply, api.MaxSupply + 1, 1 << 63, top - 1, top}
}

// amounts tells Decs at which a bound or a rounding could go wrong: none, the least ones, about whole ones, about the most shares, far above; some not normal.
func amounts() []api.Dec {
	var all []api.Dec
	beside := func(x *big.Int) {
		for d := int64(-1); d <= 1; d++ {
			all = append(all, decOf(new(big.Int).Add(x, big.NewInt(d))))
		}
	}
	beside(big.NewInt(1))
	beside(scale)
	beside(times(big.NewInt(3), scale))
	beside(times(whole(top), scale))
	beside(new(big.Int).Quo(most, big.NewInt(2)))
	beside(most)
	beside(times(most, whole(top)))
	return append(all, raw(), raw(0), raw(0, 0), raw(7, 0), raw(0, 1, 0, 0), raw(top, top, 0))
}

// drawnCount draws a number of tokens, small ones as often as great ones.
func drawnCount(r *rand.Rand) uint64 { return r.Uint64() >> r.Intn(65) }

// drawnDec draws a Dec below 10^60: whole ones, ones by a hair beside one, ones below 1, tiny ones, and any, some of them not normal.
func drawnDec(r *rand.Rand) api.Dec {
	x := new(big.Int).Rand(r, new(big.Int).Lsh(big.NewInt(1), uint(r.Intn(310))))
	switch r.Intn(6) {
	case 0:
		x.Quo(x, scale).Mul(x, scale)
	case 1:
		x.Quo(x, scale).Mul(x, scale).Add(x, big.NewInt(1))
	case 2:
		x.Mod(x, scale)
	case 3:
		x.SetUint64(uint64(r.Intn(5)))
	}
	d := decOf(x)
	if r.Intn(4) == 0 {
		d.Raw = append(d.Raw, make(api.Nat, 1+r.Intn(2))...)
	}
	return d
}

// drawnBelow draws a Dec below d (0, if d is), by a hair below or far.
func drawnBelow(r *rand.Rand, d api.Dec) api.Dec {
	x := value(d)
	if x.Sign() == 0 {
		return api.Dec{}
	}
	if r.Intn(3) == 0 {
		return decOf(x.Sub(x, big.NewInt(1)))
	}
	return decOf(new(big.Int).Rand(r, x))
}

// falls tells whether tokens by shares is less behind than ahead, no shares being 0.
func falls(aheadT *big.Int, aheadS api.Dec, behindT *big.Int, behindS api.Dec) bool {
	return times(behindT, value(aheadS)).Cmp(times(aheadT, value(behindS))) < 0
}
