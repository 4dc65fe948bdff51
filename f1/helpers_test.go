package f1_test

import (
	"bytes"
	"encoding/binary"
	"maps"
	"math/big"
	"math/rand"
	"slices"
	"testing"

	"glean/api"
	"glean/dec"
	"glean/f1"
	"glean/kv"
)

const top = ^uint64(0)

// scale: what a Raw is divided by, reckoned by none of the project's calls.
var scale = new(big.Int).Exp(big.NewInt(10), big.NewInt(36), nil)

// numbers tells numbers, of validators, periods and tokens, at which a bound, a byte or its order could go wrong.
func numbers() []uint64 {
	return []uint64{0, 1, 2, 3, 16, 17, 255, 256, 0x0102030405060708, 1 << 63, top - 1, top}
}

// whole tells a number as another arithmetic has it.
func whole(x uint64) *big.Int { return new(big.Int).SetUint64(x) }

// value tells a Dec's Raw by its value's definition.
func value(d api.Dec) *big.Int {
	z := new(big.Int)
	for _, limb := range slices.Backward(d.Raw) {
		z.Lsh(z, 64).Or(z, whole(limb))
	}
	return z
}

// decOf makes the normal Dec of a Raw's value.
func decOf(x *big.Int) api.Dec {
	var d api.Dec
	for rest := new(big.Int).Set(x); rest.Sign() > 0; rest.Rsh(rest, 64) {
		d.Raw = append(d.Raw, new(big.Int).And(rest, whole(top)).Uint64())
	}
	return d
}

// low tells a b / c, rounded down; 0, if c is.
func low(a, b, c *big.Int) *big.Int {
	if c.Sign() == 0 {
		return new(big.Int)
	}
	product := new(big.Int).Mul(a, b)
	return product.Quo(product, c)
}

// fall tells a - b; 0, if that is below 0.
func fall(a, b *big.Int) *big.Int {
	if a.Cmp(b) < 0 {
		return new(big.Int)
	}
	return new(big.Int).Sub(a, b)
}

// parsed reads a text that must be a Dec.
func parsed(t *testing.T, s string) api.Dec {
	t.Helper()
	d, e := dec.Parse(s)
	if e != api.OK {
		t.Fatalf("P2.4: Parse(%q): %v", s, e)
	}
	return d
}

// normalVal tells a validator with its Decs normal, in memory of its own.
func normalVal(v api.Validator) api.Validator {
	v.Shares, v.Current = decOf(value(v.Shares)), decOf(value(v.Current))
	v.Outstanding, v.Commission = decOf(value(v.Outstanding)), decOf(value(v.Commission))
	return v
}

// place: of a validator, a period.
type place struct{ id, period uint64 }

// past: a history as the chapter tells it; the ratio is never changed in place.
type past struct {
	ratio *big.Int
	refs  uint64
}

// book: what the chapter says of a store, by none of the project's calls.
type book struct {
	pasts map[place]past
	cuts  map[place]api.Cut
}

func newBook() *book { return &book{map[place]past{}, map[place]api.Cut{}} }

// copied tells a book like it.
func (b *book) copied() *book { return &book{maps.Clone(b.pasts), maps.Clone(b.cuts)} }

// ratio tells H of a period.
func (b *book) ratio(id, period uint64) *big.Int {
	if p, there := b.pasts[place{id, period}]; there {
		return p.ratio
	}
	return new(big.Int)
}

// refer refers to a period.
func (b *book) refer(id, period uint64) {
	b.pasts[place{id, period}] = past{b.ratio(id, period), b.pasts[place{id, period}].refs + 1}
}

// letGo lets a period go.
func (b *book) letGo(id, period uint64) {
	p, there := b.pasts[place{id, period}]
	if p.refs--; there {
		b.pasts[place{id, period}] = p
	}
	if p.refs == 0 {
		delete(b.pasts, place{id, period})
	}
}

// start does what Start must.
func (b *book) start(id uint64, v api.Validator) api.Validator {
	v = normalVal(v)
	v.Period, v.Current = 1, api.Dec{}
	b.refer(id, 0)
	return v
}

// close does what Close must.
func (b *book) close(id uint64, v api.Validator) (api.Validator, api.Dec) {
	v = normalVal(v)
	each := low(value(v.Current), big.NewInt(1), whole(v.Tokens))
	sum := new(big.Int).Add(b.ratio(id, v.Period-1), each)
	b.pasts[place{id, v.Period}] = past{sum, 1}
	b.letGo(id, v.Period-1)
	pool := v.Current
	v.Period, v.Current = v.Period+1, api.Dec{}
	if v.Tokens > 0 {
		return v, api.Dec{}
	}
	v.Outstanding = decOf(fall(value(v.Outstanding), value(pool)))
	return v, pool
}

// hold does what Hold must.
func (b *book) hold(id uint64, v api.Validator, d api.Delegation) api.Delegation {
	b.refer(id, v.Period-1)
	worth := low(value(d.Shares), new(big.Int).Mul(whole(v.Tokens), scale), value(v.Shares))
	return api.Delegation{Shares: decOf(value(d.Shares)), Period: v.Period - 1, Stake: decOf(worth)}
}

// cut does what Cut must.
func (b *book) cut(id uint64, v api.Validator, after uint64) api.Validator {
	b.cuts[place{id, v.Period - 1}] = api.Cut{Before: v.Tokens, After: after}
	b.refer(id, v.Period-1)
	v = normalVal(v)
	v.Tokens = after
	return v
}

// gone does what Gone must.
func (b *book) gone(id uint64) {
	maps.DeleteFunc(b.pasts, func(p place, _ past) bool { return p.id == id })
	maps.DeleteFunc(b.cuts, func(p place, _ api.Cut) bool { return p.id == id })
}

// cutsOf tells the periods of the cuts that a claim goes along.
func (b *book) cutsOf(id, from, last uint64) []uint64 {
	var all []uint64
	for p := range b.cuts {
		if p.id == id && from < p.period && p.period <= last {
			all = append(all, p.period)
		}
	}
	slices.Sort(all)
	return all
}

// claim tells what Claim must.
func (b *book) claim(id uint64, v api.Validator, d api.Delegation) (*big.Int, int) {
	reward, stake, from := new(big.Int), value(d.Stake), d.Period
	along := b.cutsOf(id, from, v.Period-1)
	for _, p := range along {
		reward.Add(reward, low(stake, fall(b.ratio(id, p), b.ratio(id, from)), scale))
		c := b.cuts[place{id, p}]
		stake, from = low(stake, whole(c.After), whole(c.Before)), p
	}
	reward.Add(reward, low(stake, fall(b.ratio(id, v.Period-1), b.ratio(id, from)), scale))
	return reward, len(along)
}

// count tells what Count must.
func (b *book) count(id uint64) (int, int) {
	histories, cuts := 0, 0
	for p := range b.pasts {
		if p.id == id {
			histories++
		}
	}
	for p := range b.cuts {
		if p.id == id {
			cuts++
		}
	}
	return histories, cuts
}

// spelt tells the bytes of numbers, the highest byte first.
func spelt(begin []byte, all ...uint64) []byte {
	b := slices.Clone(begin)
	for _, n := range all {
		b = binary.BigEndian.AppendUint64(b, n)
	}
	return b
}

// keyOf tells the key of a place, by the mark of its kind.
func keyOf(p place, mark byte) []byte {
	return spelt(append(spelt([]byte{0x76}, p.id), mark), p.period)
}

// laid tells all that lies in a store of that book, rising.
func (b *book) laid() []api.Pair {
	var all []api.Pair
	for p, h := range b.pasts {
		digits := h.ratio.Bytes()
		all = append(all, api.Pair{Key: keyOf(p, 0x68), Value: spelt(append([]byte{byte(len(digits))}, digits...), h.refs)})
	}
	for p, c := range b.cuts {
		all = append(all, api.Pair{Key: keyOf(p, 0x73), Value: spelt(nil, c.Before, c.After)})
	}
	slices.SortFunc(all, func(x, y api.Pair) int { return bytes.Compare(x.Key, y.Key) })
	return all
}

// samePair tells whether two entries of a store are the same.
func samePair(x, y api.Pair) bool {
	return bytes.Equal(x.Key, y.Key) && bytes.Equal(x.Value, y.Value)
}

// same tells whether two Decs are the same, to the limb.
func same(x, y api.Dec) bool { return slices.Equal(x.Raw, y.Raw) }

// sameVal tells whether two validators are.
func sameVal(x, y api.Validator) bool {
	return x.Rate == y.Rate && x.Tokens == y.Tokens && x.Jailed == y.Jailed && x.Until == y.Until && x.Bonded == y.Bonded && x.Period == y.Period &&
		same(x.Shares, y.Shares) && same(x.Current, y.Current) && same(x.Outstanding, y.Outstanding) && same(x.Commission, y.Commission)
}

// sameDelegation tells whether two delegations are.
func sameDelegation(x, y api.Delegation) bool {
	return x.Period == y.Period && same(x.Shares, y.Shares) && same(x.Stake, y.Stake)
}

// wantVal fails unless a call has answered that validator.
func wantVal(t *testing.T, what string, got, want api.Validator) {
	t.Helper()
	if !sameVal(got, want) {
		t.Fatalf("%s: %v, not %v", what, got, want)
	}
}

// wantDec fails unless a call has answered that Dec, normal.
func wantDec(t *testing.T, what string, got, want api.Dec) {
	t.Helper()
	if !same(got, want) {
		t.Fatalf("%s: %v, not %v", what, got, want)
	}
}

// wantDelegation fails unless a call has answered that delegation.
func wantDelegation(t *testing.T, what string, got, want api.Delegation) {
	t.Helper()
	if !sameDelegation(got, want) {
		t.Fatalf("%s: %v, not %v", what, got, want)
	}
}

// wantClaim fails unless Claim tells what the book does.
func wantClaim(t *testing.T, what string, s *kv.Store, b *book, id uint64, v api.Validator, d api.Delegation) {
	t.Helper()
	got, n := f1.Claim(s, id, v, d)
	want, along := b.claim(id, v, d)
	if !same(got, decOf(want)) || n != along {
		t.Fatalf("P13.4: %s: Claim: %v, %d, not %v, %d", what, got, n, decOf(want), along)
	}
}

// wantBook fails unless the store holds what the book says, nothing else, and counts it.
func wantBook(t *testing.T, what string, s *kv.Store, b *book) {
	t.Helper()
	for _, id := range append(numbers(), 15, 18) {
		histories, cuts := f1.Count(s, id)
		if h, c := b.count(id); h != histories || c != cuts {
			t.Fatalf("P13.5: %s: Count(%d): %d, %d, not %d, %d", what, id, histories, cuts, h, c)
		}
	}
	if got := s.Dump(); !slices.EqualFunc(got, b.laid(), samePair) {
		t.Fatalf("%s: there lie %x, not %x", what, got, b.laid())
	}
}

// doStart starts with the store and the book.
func doStart(t *testing.T, s *kv.Store, b *book, id uint64, v api.Validator) api.Validator {
	t.Helper()
	got := f1.Start(s, id, v)
	wantVal(t, "P13.1: Start", got, b.start(id, v))
	return got
}

// doClose closes.
func doClose(t *testing.T, s *kv.Store, b *book, id uint64, v api.Validator) (api.Validator, api.Dec) {
	t.Helper()
	got, pool := f1.Close(s, id, v)
	want, rest := b.close(id, v)
	wantVal(t, "P13.2: Close", got, want)
	wantDec(t, "P13.2: Close: what goes to the pool", pool, rest)
	return got, pool
}

// doHold holds.
func doHold(t *testing.T, s *kv.Store, b *book, id uint64, v api.Validator, d api.Delegation) api.Delegation {
	t.Helper()
	got := f1.Hold(s, id, v, d)
	wantDelegation(t, "P13.3: Hold", got, b.hold(id, v, d))
	return got
}

// doFree frees.
func doFree(s *kv.Store, b *book, id uint64, d api.Delegation) {
	f1.Free(s, id, d)
	b.letGo(id, d.Period)
}

// doCut cuts.
func doCut(t *testing.T, s *kv.Store, b *book, id uint64, v api.Validator, after uint64) api.Validator {
	t.Helper()
	got := f1.Cut(s, id, v, after)
	wantVal(t, "P13.5: Cut", got, b.cut(id, v, after))
	return got
}

// drawn draws a number, some of them the same ones again and again.
func drawn(r *rand.Rand) uint64 {
	if r.Intn(3) > 0 {
		return numbers()[r.Intn(len(numbers()))]
	}
	return r.Uint64() >> r.Intn(64)
}

// drawnId draws a validator: few ones, some of them neighbours.
func drawnId(r *rand.Rand) uint64 { return []uint64{16, 17, 0, top, 255, 256}[r.Intn(6)] }

// drawnPeriod draws a period: few ones, also about the end of the numbers.
func drawnPeriod(r *rand.Rand) uint64 { return uint64(r.Intn(9)) - 3 }

// drawnDec draws a Dec: whole ones, ones below 1, tiny ones, and any, some of them not normal.
func drawnDec(r *rand.Rand) api.Dec {
	x := new(big.Int).Rand(r, new(big.Int).Lsh(big.NewInt(1), uint(r.Intn(500))))
	switch r.Intn(5) {
	case 0:
		x.Quo(x, scale).Mul(x, scale)
	case 1:
		x.Mod(x, scale)
	case 2:
		x.SetUint64(uint64(r.Intn(5)))
	}
	d := decOf(x)
	if r.Intn(4) == 0 {
		d.Raw = append(d.Raw, make(api.Nat, 1+r.Intn(2))...)
	}
	return d
}

func drawnVal(r *rand.Rand) api.Validator {
	return api.Validator{
		Rate: drawn(r), Tokens: drawn(r), Shares: drawnDec(r), Jailed: r.Intn(2) == 0, Until: drawn(r), Bonded: r.Intn(2) == 0, Period: drawnPeriod(r),
		Current: drawnDec(r), Outstanding: drawnDec(r), Commission: drawnDec(r),
	}
}

func drawnDelegation(r *rand.Rand) api.Delegation {
	return api.Delegation{Shares: drawnDec(r), Period: drawnPeriod(r), Stake: drawnDec(r)}
}

// doOne does a drawn call with the store and the book, whatever was done ahead of it.
func doOne(t *testing.T, r *rand.Rand, s *kv.Store, b *book) {
	t.Helper()
	id, v, d := drawnId(r), drawnVal(r), drawnDelegation(r)
	switch r.Intn(20) {
	case 0, 1:
		doStart(t, s, b, id, v)
	case 2, 3, 4, 5, 6, 7:
		doClose(t, s, b, id, v)
	case 8, 9, 10:
		doHold(t, s, b, id, v, d)
	case 11, 12, 13, 14:
		doFree(s, b, id, d)
	case 15, 16, 17, 18:
		doCut(t, s, b, id, v, drawn(r))
	default:
		f1.Gone(s, id)
		b.gone(id)
	}
	for range 3 {
		wantClaim(t, "behind a call", s, b, id, drawnVal(r), drawnDelegation(r))
	}
}

// started tells a store and its book with histories and cuts of some validators.
func started(t *testing.T) (*kv.Store, *book) {
	t.Helper()
	s, b := kv.New(), newBook()
	r := rand.New(rand.NewSource(130))
	for len(b.pasts) < 12 || len(b.cuts) < 12 {
		doOne(t, r, s, b)
	}
	return s, b
}
