package dist_test

import (
	"math/rand"
	"testing"

	"glean/api"
	"glean/dec"
	"glean/dist"
	"glean/kv"
)

// P14.1: the numbers of the errors are the chapter's.
func TestNumbers(t *testing.T) {
	if api.ErrDistNone != 140 || api.ErrDistSmall != 141 || api.ErrDistPool != 142 || api.Parts != 10000 {
		t.Error("P14.1: the chapter's numbers are others")
	}
}

// P14.1: the pool is what was poured, together; nothing lies there as long as that is 0.
func TestPour(t *testing.T) {
	s, b := kv.New(), newBook()
	wantDec(t, "P14.1: no pool", dist.Pool(s), api.Dec{})
	for _, text := range []string{"0", "0", hair, "0", "0.999999999999999999999999999999999999", "18446744073709551615", "3.5", hair} {
		d := parsed(t, text)
		dist.Pour(s, d)
		b.pour(value(d))
		wantDec(t, "P14.1: Pool", dist.Pool(s), decOf(b.pool))
		wantBook(t, "P14.1: behind Pour", s, b)
	}
	wantDec(t, "P14.1: all that was poured", dist.Pool(s), parsed(t, "18446744073709551619.500000000000000000000000000000000001"))
}

// P14.1: Pour takes Decs that aren't normal.
func TestPourOfNoughts(t *testing.T) {
	s := kv.New()
	dist.Pour(s, api.Dec{Raw: api.Nat{0, 0}})
	if len(s.Dump()) != 0 {
		t.Errorf("P14.1: behind Pour of 0 there lies %x", s.Dump())
	}
	dist.Pour(s, api.Dec{Raw: api.Nat{7, 0, 0}})
	wantDec(t, "P14.1: Pool", dist.Pool(s), api.Dec{Raw: api.Nat{7}})
}

// P14.1: a record is told as it was laid, under its own key, and of no other validator or delegator.
func TestRecords(t *testing.T) {
	s, b := kv.New(), newBook()
	for i, id := range numbers() {
		if i%2 == 0 {
			continue
		}
		b.vals[id] = full(id, uint64(i))
		dist.SetVal(s, id, b.vals[id])
		for j, del := range numbers() {
			if j%3 == 0 {
				b.dels[pair{id, del}] = api.Delegation{Shares: dec.Of(id), Period: del, Stake: dec.Of(uint64(j))}
				dist.SetDelegation(s, id, del, b.dels[pair{id, del}])
			}
		}
	}
	wantBook(t, "P14.1: what was laid", s, b)
	wantRecords(t, s, b)
	wantBook(t, "P14.1: behind asking", s, b)
}

// wantRecords fails unless each record of the book is told, and none else.
func wantRecords(t *testing.T, s *kv.Store, b *book) {
	t.Helper()
	for _, id := range numbers() {
		want, there := b.vals[id]
		if got, ok := dist.Val(s, id); ok != there || !sameVal(got, want) {
			t.Fatalf("P14.1: Val(%d): %v, %v, not %v", id, got, ok, want)
		}
		for _, del := range numbers() {
			want, there := b.dels[pair{id, del}]
			if got, ok := dist.Delegation(s, id, del); ok != there || !sameDelegation(got, want) {
				t.Fatalf("P14.1: Delegation(%d, %d): %v, %v, not %v", id, del, got, ok, want)
			}
		}
	}
}

// P14.1: nothing lies there, or other records alone do: there is none, and its record is zero.
func TestNoRecords(t *testing.T) {
	wantRecords(t, kv.New(), newBook())
	b := newBook()
	for _, id := range numbers() {
		b.pasts[place{id, id}] = past{value(dec.Of(3)), 2}
		b.cuts[place{id, id}] = api.Cut{Before: 2, After: 1}
		b.purses[id] = api.Account{Coins: 9, Seq: 9}
		b.bonded[id] = true
	}
	wantRecords(t, b.store(), b)
	wantDec(t, "P14.1: no pool", dist.Pool(b.store()), api.Dec{})
}

// P14.1: a record that is there is laid anew; a zero one lies there, too.
func TestSetAgain(t *testing.T) {
	s, b := kv.New(), newBook()
	for _, v := range []api.Validator{full(3, 4), full(9, 5), {}, full(top, top)} {
		d := api.Delegation{Shares: v.Shares, Period: v.Rate, Stake: v.Current}
		dist.SetVal(s, 16, v)
		dist.SetDelegation(s, 16, 20, d)
		b.vals[16], b.dels[pair{16, 20}] = v, d
		wantBook(t, "P14.1: laid anew", s, b)
		wantRecords(t, s, b)
	}
}

// P14.2, by hand: what is commission, what goes to those who delegate.
func TestGive(t *testing.T) {
	for _, x := range []struct {
		rate                   uint64
		r, commission, current string
	}{
		{0, "65.5", "0", "65.5"},
		{1000, "65.5", "6.55", "58.95"},
		{1, "1", "0.0001", "0.9999"},
		{5000, hair, "0", hair},
		{9999, hair, "0", hair},
		{9999, "1", "0.9999", "0.0001"},
		{10000, hair, hair, "0"},
		{10000, "3", "3", "0"},
		{10001, "3", "3", "0"},
		{20000, "3", "3", "0"},
		{top, "3", "3", "0"},
		{3333, "0.000000000000000000000000000000000003", "0", "0.000000000000000000000000000000000003"},
		{3334, "0.000000000000000000000000000000000003", hair, "0.000000000000000000000000000000000002"},
		{1000, "0", "0", "0"},
	} {
		for _, v := range []api.Validator{{Rate: x.rate}, full(x.rate, 5), full(x.rate, 0)} {
			want := v
			want.Commission = dec.Add(v.Commission, parsed(t, x.commission))
			want.Current = dec.Add(v.Current, parsed(t, x.current))
			want.Outstanding = dec.Add(v.Outstanding, parsed(t, x.r))
			wantVal(t, "P14.2: Give", dist.Give(v, parsed(t, x.r)), want)
		}
	}
}

// P14.2: whatever is given to whomever, by another arithmetic.
func TestGiveDrawn(t *testing.T) {
	r := rand.New(rand.NewSource(142))
	b := newBook()
	for range 3000 {
		v, given := drawnVal(r), drawnDec(r)
		want, _ := b.give(v, value(given))
		wantVal(t, "P14.2: Give", dist.Give(v, given), want)
	}
}
