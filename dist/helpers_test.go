package dist_test

import (
	"bytes"
	"encoding/binary"
	"math/big"
	"math/rand"
	"slices"
	"testing"

	"glean/api"
	"glean/dec"
	"glean/kv"
)

const (
	top    = ^uint64(0)
	supply = 1_000_000_000_000_000_000
	hair   = "0.000000000000000000000000000000000001"
	// The modules' accounts, as the document numbers them.
	collector = 1
	shared    = 4
)

// scale: what a Raw is divided by, reckoned by none of the project's calls.
var scale = new(big.Int).Exp(big.NewInt(10), big.NewInt(36), nil)

// numbers tells numbers, of ids, tokens and parts, at which a bound, a byte or its order could go wrong.
func numbers() []uint64 {
	return []uint64{0, 1, 4, 5, 15, 16, 17, 255, 256, 9999, 10000, 10001, 0x0102030405060708, 1 << 63, top - 1, top}
}

// whole tells a number as another arithmetic has it.
func whole(x uint64) *big.Int { return new(big.Int).SetUint64(x) }

// coins tells so many coins as the Raw of a Dec.
func coins(x uint64) *big.Int { return new(big.Int).Mul(whole(x), scale) }

// value tells a Dec's Raw by its value's definition.
func value(d api.Dec) *big.Int {
	z := new(big.Int)
	for _, limb := range slices.Backward(d.Raw) {
		z.Lsh(z, 64).Or(z, whole(limb))
	}
	return z
}

// decOf makes the normal Dec of a Raw's value.
func decOf(x *big.Int) api.Dec {
	var d api.Dec
	for rest := new(big.Int).Set(x); rest.Sign() > 0; rest.Rsh(rest, 64) {
		d.Raw = append(d.Raw, new(big.Int).And(rest, whole(top)).Uint64())
	}
	return d
}

// sum tells a and b together.
func sum(a, b *big.Int) *big.Int { return new(big.Int).Add(a, b) }

// low tells a b / c, rounded down; 0, if c is.
func low(a, b, c *big.Int) *big.Int {
	if c.Sign() == 0 {
		return new(big.Int)
	}
	product := new(big.Int).Mul(a, b)
	return product.Quo(product, c)
}

// fall tells a - b; 0, if that is below 0.
func fall(a, b *big.Int) *big.Int {
	if a.Cmp(b) < 0 {
		return new(big.Int)
	}
	return new(big.Int).Sub(a, b)
}

// parsed reads a text that must be a Dec.
func parsed(t *testing.T, s string) api.Dec {
	t.Helper()
	d, e := dec.Parse(s)
	if e != api.OK {
		t.Fatalf("P2.4: Parse(%q): %v", s, e)
	}
	return d
}

// normalVal tells a validator with its Decs normal, in memory of its own.
func normalVal(v api.Validator) api.Validator {
	v.Shares, v.Current = decOf(value(v.Shares)), decOf(value(v.Current))
	v.Outstanding, v.Commission = decOf(value(v.Outstanding)), decOf(value(v.Commission))
	return v
}

// normalDelegation tells a delegation so.
func normalDelegation(d api.Delegation) api.Delegation {
	return api.Delegation{Shares: decOf(value(d.Shares)), Period: d.Period, Stake: decOf(value(d.Stake))}
}

// full tells a validator each of whose fields is another one than 0.
func full(rate, tokens uint64) api.Validator {
	return api.Validator{
		Rate: rate, Tokens: tokens, Shares: dec.Of(4), Jailed: true, Until: 6, Bonded: true, Period: 7,
		Current: dec.Of(8), Outstanding: dec.Of(900), Commission: dec.Of(10),
	}
}

// spelt tells the bytes of numbers, the highest byte first.
func spelt(begin []byte, all ...uint64) []byte {
	b := slices.Clone(begin)
	for _, n := range all {
		b = binary.BigEndian.AppendUint64(b, n)
	}
	return b
}

// speltDec tells the bytes of a Raw, with how many they are ahead of them.
func speltDec(x *big.Int) []byte {
	digits := x.Bytes()
	return append([]byte{byte(len(digits))}, digits...)
}

// speltVal tells the bytes of a validator's record.
func speltVal(v api.Validator) []byte {
	truth := map[bool]byte{true: 1}
	b := append(spelt(nil, v.Rate, v.Tokens), speltDec(value(v.Shares))...)
	b = spelt(append(b, truth[v.Jailed]), v.Until)
	b = spelt(append(b, truth[v.Bonded]), v.Period)
	return slices.Concat(b, speltDec(value(v.Current)), speltDec(value(v.Outstanding)), speltDec(value(v.Commission)))
}

// speltDelegation tells the bytes of a delegation's record.
func speltDelegation(d api.Delegation) []byte {
	return append(spelt(speltDec(value(d.Shares)), d.Period), speltDec(value(d.Stake))...)
}

// keyOf tells a key of a validator's, by the mark of its kind.
func keyOf(id uint64, mark byte, more ...uint64) []byte {
	return spelt(append(spelt([]byte{0x76}, id), mark), more...)
}

// same tells whether two Decs are the same, to the limb.
func same(x, y api.Dec) bool { return slices.Equal(x.Raw, y.Raw) }

// sameVal tells whether two validators are.
func sameVal(x, y api.Validator) bool {
	return x.Rate == y.Rate && x.Tokens == y.Tokens && x.Jailed == y.Jailed && x.Until == y.Until && x.Bonded == y.Bonded && x.Period == y.Period &&
		same(x.Shares, y.Shares) && same(x.Current, y.Current) && same(x.Outstanding, y.Outstanding) && same(x.Commission, y.Commission)
}

// sameDelegation tells whether two delegations are.
func sameDelegation(x, y api.Delegation) bool {
	return x.Period == y.Period && same(x.Shares, y.Shares) && same(x.Stake, y.Stake)
}

// samePaid tells whether two payments are, in all their fields.
func samePaid(x, y api.Paid) bool {
	return x.Val == y.Val && x.Del == y.Del && x.W == y.W && x.Tokens == y.Tokens &&
		same(x.Q, y.Q) && same(x.Left, y.Left) && same(x.Shares, y.Shares)
}

// samePair tells whether two entries of a store are.
func samePair(x, y api.Pair) bool {
	return bytes.Equal(x.Key, y.Key) && bytes.Equal(x.Value, y.Value)
}

// wantDec fails unless a call has answered that Dec, normal.
func wantDec(t *testing.T, what string, got, want api.Dec) {
	t.Helper()
	if !same(got, want) {
		t.Fatalf("%s: %s (%v), not %s", what, dec.Text(got), got, dec.Text(want))
	}
}

// wantVal fails unless a call has answered that validator.
func wantVal(t *testing.T, what string, got, want api.Validator) {
	t.Helper()
	if !sameVal(got, want) {
		t.Fatalf("%s: %v, not %v", what, got, want)
	}
}

// wantPaid fails unless a call has answered that payment.
func wantPaid(t *testing.T, what string, got, want api.Paid) {
	t.Helper()
	if !samePaid(got, want) {
		t.Fatalf("%s: %v, not %v", what, got, want)
	}
}

// wantErr fails unless a call has answered that.
func wantErr(t *testing.T, what string, got, want api.Errno) {
	t.Helper()
	if got != want {
		t.Fatalf("%s: %v, not %v", what, got, want)
	}
}

// wantBook fails unless the store holds what the book says, and nothing else.
func wantBook(t *testing.T, what string, s *kv.Store, b *book) {
	t.Helper()
	if got := s.Dump(); !slices.EqualFunc(got, b.laid(), samePair) {
		t.Fatalf("%s: there lie %x, not %x", what, got, b.laid())
	}
}

// drawn draws a number, some of them the same ones again and again.
func drawn(r *rand.Rand) uint64 {
	if r.Intn(3) > 0 {
		return numbers()[r.Intn(len(numbers()))]
	}
	return r.Uint64() >> r.Intn(64)
}

// drawnId draws a validator's id: few ones, users' and others.
func drawnId(r *rand.Rand) uint64 { return []uint64{16, 17, 18, top, 256, 5, shared}[r.Intn(7)] }

// drawnDel draws a delegator's.
func drawnDel(r *rand.Rand) uint64 { return []uint64{16, 17, 20, 21, top, 0, 15, shared}[r.Intn(8)] }

// drawnPeriod draws a period: few ones, also about the end of the numbers.
func drawnPeriod(r *rand.Rand) uint64 { return uint64(r.Intn(7)) - 2 }

// drawnCoins draws how many coins an account has.
func drawnCoins(r *rand.Rand) uint64 {
	switch r.Intn(4) {
	case 0:
		return 0
	case 1:
		return supply - uint64(r.Intn(3))
	}
	return min(supply, r.Uint64()>>(4+r.Intn(60)))
}

// drawnDec draws a Dec: whole ones, ones below 1, tiny ones, and any, some of them not normal.
func drawnDec(r *rand.Rand) api.Dec {
	x := new(big.Int).Rand(r, new(big.Int).Lsh(big.NewInt(1), uint(r.Intn(250))))
	switch r.Intn(6) {
	case 0:
		x.Quo(x, scale).Mul(x, scale)
	case 1:
		x.Mod(x, scale)
	case 2:
		x.SetUint64(uint64(r.Intn(5)))
	case 3:
		x = coins(uint64(r.Intn(100)))
	}
	d := decOf(x)
	if r.Intn(4) == 0 {
		d.Raw = append(d.Raw, make(api.Nat, 1+r.Intn(2))...)
	}
	return d
}

func drawnVal(r *rand.Rand) api.Validator {
	return api.Validator{
		Rate: drawn(r), Tokens: drawn(r) * uint64(r.Intn(2)), Shares: drawnDec(r), Jailed: r.Intn(2) == 0, Until: drawn(r), Bonded: r.Intn(2) == 0, Period: drawnPeriod(r),
		Current: drawnDec(r), Outstanding: drawnDec(r), Commission: drawnDec(r),
	}
}

func drawnDelegation(r *rand.Rand) api.Delegation {
	return api.Delegation{Shares: drawnDec(r), Period: drawnPeriod(r), Stake: drawnDec(r)}
}
