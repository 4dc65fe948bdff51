package app_test

import (
	"bytes"
	"encoding/binary"
	"math/big"
	"slices"
	"testing"

	"glean/api"
	"glean/dec"
	"glean/kv"
)

const (
	top    = ^uint64(0)
	supply = 1_000_000_000_000_000_000
	hair   = "0.000000000000000000000000000000000001"
	// The modules' accounts, as the document numbers them.
	collector = 1
	bonded    = 2
	loose     = 3
	shared    = 4
)

// scale: what a Raw is divided by; most: the Raw of 10^54, reckoned by none of the project's calls.
var (
	scale = new(big.Int).Exp(big.NewInt(10), big.NewInt(36), nil)
	most  = new(big.Int).Exp(big.NewInt(10), big.NewInt(90), nil)
)

// whole tells a number as another arithmetic has it.
func whole(x uint64) *big.Int { return new(big.Int).SetUint64(x) }

// coins tells so many coins as the Raw of a Dec.
func coins(x uint64) *big.Int { return new(big.Int).Mul(whole(x), scale) }

// value tells a Dec's Raw by its value's definition.
func value(d api.Dec) *big.Int {
	z := new(big.Int)
	for _, limb := range slices.Backward(d.Raw) {
		z.Lsh(z, 64).Or(z, whole(limb))
	}
	return z
}

// decOf makes the normal Dec of a Raw's value.
func decOf(x *big.Int) api.Dec {
	var d api.Dec
	for rest := new(big.Int).Set(x); rest.Sign() > 0; rest.Rsh(rest, 64) {
		d.Raw = append(d.Raw, new(big.Int).And(rest, whole(top)).Uint64())
	}
	return d
}

// sum tells a and b together.
func sum(a, b *big.Int) *big.Int { return new(big.Int).Add(a, b) }

// low tells a b / c, rounded down; 0, if c is.
func low(a, b, c *big.Int) *big.Int {
	if c.Sign() == 0 {
		return new(big.Int)
	}
	product := new(big.Int).Mul(a, b)
	return product.Quo(product, c)
}

// high tells a b / c, rounded up.
func high(a, b, c *big.Int) *big.Int {
	q, left := new(big.Int).QuoRem(new(big.Int).Mul(a, b), c, new(big.Int))
	return q.Add(q, big.NewInt(int64(left.Sign())))
}

// fall tells a - b; 0, if that is below 0.
func fall(a, b *big.Int) *big.Int {
	if a.Cmp(b) < 0 {
		return new(big.Int)
	}
	return new(big.Int).Sub(a, b)
}

// parsed reads a text that must be a Dec.
func parsed(t *testing.T, s string) api.Dec {
	t.Helper()
	d, e := dec.Parse(s)
	if e != api.OK {
		t.Fatalf("P2.4: Parse(%q): %v", s, e)
	}
	return d
}

// spelt tells the bytes of numbers, the highest byte first.
func spelt(begin []byte, all ...uint64) []byte {
	b := slices.Clone(begin)
	for _, n := range all {
		b = binary.BigEndian.AppendUint64(b, n)
	}
	return b
}

// speltDec tells the bytes of a Raw, with how many they are ahead of them.
func speltDec(x *big.Int) []byte {
	digits := x.Bytes()
	return append([]byte{byte(len(digits))}, digits...)
}

// speltVal tells the bytes of a validator's record.
func speltVal(v api.Validator) []byte {
	truth := map[bool]byte{true: 1}
	b := append(spelt(nil, v.Rate, v.Tokens), speltDec(value(v.Shares))...)
	b = spelt(append(b, truth[v.Jailed]), v.Until)
	b = spelt(append(b, truth[v.Bonded]), v.Period)
	return slices.Concat(b, speltDec(value(v.Current)), speltDec(value(v.Outstanding)), speltDec(value(v.Commission)))
}

// speltDelegation tells the bytes of a delegation's record.
func speltDelegation(d api.Delegation) []byte {
	return append(spelt(speltDec(value(d.Shares)), d.Period), speltDec(value(d.Stake))...)
}

// keyOf tells a key of a validator's, by the mark of its kind.
func keyOf(id uint64, mark byte, more ...uint64) []byte {
	return spelt(append(spelt([]byte{0x76}, id), mark), more...)
}

// same tells whether two Decs are the same, to the limb.
func same(x, y api.Dec) bool { return slices.Equal(x.Raw, y.Raw) }

// samePaid tells whether two payments are, in all their fields.
func samePaid(x, y api.Paid) bool {
	return x.Val == y.Val && x.Del == y.Del && x.W == y.W && x.Tokens == y.Tokens &&
		same(x.Q, y.Q) && same(x.Left, y.Left) && same(x.Shares, y.Shares)
}

// samePair tells whether two entries of a store are.
func samePair(x, y api.Pair) bool {
	return bytes.Equal(x.Key, y.Key) && bytes.Equal(x.Value, y.Value)
}

// wantDec fails unless a call has answered that Dec, normal.
func wantDec(t *testing.T, what string, got, want api.Dec) {
	t.Helper()
	if !same(got, want) {
		t.Fatalf("%s: %s (%v), not %s", what, dec.Text(got), got, dec.Text(want))
	}
}

// wantCoins fails unless a call has answered that number.
func wantCoins(t *testing.T, what string, got, want uint64) {
	t.Helper()
	if got != want {
		t.Fatalf("%s: %d, not %d", what, got, want)
	}
}

// wantPaid fails unless a call has answered that payment.
func wantPaid(t *testing.T, what string, got, want api.Paid) {
	t.Helper()
	if !samePaid(got, want) {
		t.Fatalf("%s: %v, not %v", what, got, want)
	}
}

// wantErr fails unless a call has answered that.
func wantErr(t *testing.T, what string, got, want api.Errno) {
	t.Helper()
	if got != want {
		t.Fatalf("%s: %v, not %v", what, got, want)
	}
}

// wantBook fails unless the store holds what the book says, and nothing else.
func wantBook(t *testing.T, what string, s *kv.Store, b *book) {
	t.Helper()
	if got := s.Dump(); !slices.EqualFunc(got, b.laid(), samePair) {
		t.Fatalf("%s: there lie %x, not %x", what, got, b.laid())
	}
}
