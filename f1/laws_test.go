package f1_test

import (
	"math/big"
	"math/rand"
	"slices"
	"sync"
	"testing"

	"glean/api"
	"glean/dec"
	"glean/f1"
	"glean/keys"
	"glean/kv"
	"glean/rec"
)

// P13.1 to P13.5: whatever is done, in whatever order, there lies what the chapter says, and it is told.
func TestWhateverIsDone(t *testing.T) {
	r := rand.New(rand.NewSource(131))
	for range 30 {
		s, b := kv.New(), newBook()
		for range 150 {
			doOne(t, r, s, b)
			wantBook(t, "P13.1 to P13.5: behind a call", s, b)
		}
	}
}

// run: a validator's life as P13.6 asks for it.
type run struct {
	s    *kv.Store
	v    api.Validator
	held []api.Delegation
	cuts []uint64
}

// newRun begins one of so many tokens, and as many shares.
func newRun(tokens uint64) *run {
	s := kv.New()
	return &run{s: s, v: f1.Start(s, 16, api.Validator{Tokens: tokens, Shares: dec.Of(tokens)})}
}

// close closes a period in which so much was given.
func (u *run) close(current api.Dec) {
	u.v.Current, u.v.Outstanding = current, current
	u.v, _ = f1.Close(u.s, 16, u.v)
}

// hold begins a delegation.
func (u *run) hold(shares api.Dec) {
	u.held = append(u.held, f1.Hold(u.s, 16, u.v, api.Delegation{Shares: shares}))
}

// free ends one.
func (u *run) free(i int) {
	f1.Free(u.s, 16, u.held[i])
	u.held = slices.Delete(u.held, i, i+1)
}

// cut cuts, right behind a close.
func (u *run) cut(after uint64) {
	u.cuts = append(u.cuts, u.v.Period-1)
	u.v = f1.Cut(u.s, 16, u.v, after)
}

// step does one drawn thing of a validator's life.
func (u *run) step(r *rand.Rand) {
	u.close(drawnDec(r))
	switch r.Intn(6) {
	case 0, 1:
		u.hold(drawnDec(r))
	case 2:
		if len(u.held) > 0 {
			u.free(r.Intn(len(u.held)))
		}
	case 3:
		if u.v.Tokens > 0 {
			u.cut(uint64(r.Int63n(int64(u.v.Tokens))))
		}
	case 4:
		u.v.Tokens += uint64(r.Intn(1000))
	}
}

// refs tells how many refer to each period.
func (u *run) refs() map[uint64]uint64 {
	all := map[uint64]uint64{u.v.Period - 1: 1}
	for _, d := range u.held {
		all[d.Period]++
	}
	for _, period := range u.cuts {
		all[period]++
	}
	return all
}

// P13.6: histories number at most 1, and the delegations that are held, and cuts; each one's Refs is how many refer to it; ratios rise with the period.
func TestHistories(t *testing.T) {
	r := rand.New(rand.NewSource(136))
	for range 20 {
		u := newRun(uint64(r.Intn(1000)))
		for range 100 {
			u.step(r)
			histories, cuts := f1.Count(u.s, 16)
			if histories > 1+len(u.held)+len(u.cuts) || cuts != len(u.cuts) || len(u.s.Dump()) != histories+cuts {
				t.Fatalf("P13.6: %d histories, %d held, %d cuts", histories, len(u.held), len(u.cuts))
			}
			wantRefs(t, u)
		}
	}
}

// wantRefs fails unless each history has as many references as there are, and the ratios don't fall.
func wantRefs(t *testing.T, u *run) {
	t.Helper()
	refs, below := u.refs(), api.Dec{}
	under, _ := keys.Under(api.KeyHistory, 16)
	for k, b := range u.s.Prefix(under) {
		at, _ := keys.Read(k)
		h, e := rec.History(b)
		if e != api.OK || h.Refs != refs[at.B] || h.Refs == 0 {
			t.Fatalf("P13.6: %d refer to period %d, not %d", h.Refs, at.B, refs[at.B])
		}
		if dec.Cmp(h.Ratio, below) < 0 {
			t.Fatalf("P13.6: the ratio falls at period %d", at.B)
		}
		below = h.Ratio
		delete(refs, at.B)
	}
	if len(refs) > 0 {
		t.Fatalf("P13.6: no history of %v", refs)
	}
}

// P13.7: right behind Hold a claim is 0, without cuts, also where a cut lies at that period.
func TestRightBehindHold(t *testing.T) {
	r := rand.New(rand.NewSource(137))
	for range 50 {
		u := newRun(1000)
		for range 30 {
			u.step(r)
			u.hold(drawnDec(r))
			if got, n := f1.Claim(u.s, 16, u.v, u.held[len(u.held)-1]); !dec.Zero(got) || n != 0 {
				t.Fatalf("P13.7: right behind Hold: %s, %d", dec.Text(got), n)
			}
		}
	}
}

// exact tells a Dec's value as a fraction.
func exact(d api.Dec) *big.Rat { return new(big.Rat).SetFrac(value(d), scale) }

// P13.7: a claim without cuts isn't above what is exact, and lies less than the told bound below it.
func TestWithinTheBound(t *testing.T) {
	r := rand.New(rand.NewSource(138))
	hairs := func(n int64) *big.Rat { return new(big.Rat).SetFrac(big.NewInt(n), scale) }
	for range 100 {
		u := newRun(1 + uint64(r.Intn(1000)))
		u.hold(drawnDec(r))
		d, sum := u.held[0], new(big.Rat)
		stake := exact(d.Stake)
		for n := range int64(40) {
			u.v.Tokens = drawn(r)
			current := drawnDec(r)
			if u.v.Tokens > 0 {
				each := new(big.Rat).Quo(exact(current), new(big.Rat).SetInt(whole(u.v.Tokens)))
				sum.Add(sum, each)
			}
			u.close(current)
			got, cuts := f1.Claim(u.s, 16, u.v, d)
			below := new(big.Rat).Sub(new(big.Rat).Mul(stake, sum), exact(got))
			bound := new(big.Rat).Add(new(big.Rat).Mul(stake, hairs(n+1)), hairs(1))
			if cuts != 0 || below.Sign() < 0 || below.Cmp(bound) >= 0 {
				t.Fatalf("P13.7: behind %d periods the claim lies %s below, of %s", n+1, below, bound)
			}
		}
	}
}

// split tells Decs that sum to the whole number n.
func split(r *rand.Rand, n uint64) []api.Dec {
	rest := new(big.Int).Mul(whole(n), scale)
	var all []api.Dec
	for range r.Intn(12) {
		part := new(big.Int).Rand(r, new(big.Int).Add(rest, big.NewInt(1)))
		rest.Sub(rest, part)
		all = append(all, decOf(part))
	}
	return append(all, decOf(rest))
}

// P13.8: the claims of all who are held sum to at most what was given, over cuts, too.
func TestClaimsAreCovered(t *testing.T) {
	r := rand.New(rand.NewSource(139))
	for range 60 {
		tokens := 1 + uint64(r.Int63())>>r.Intn(62)
		u := newRun(tokens)
		for _, shares := range split(r, tokens) {
			u.hold(shares)
		}
		given := new(big.Int)
		for range 30 {
			current := drawnDec(r)
			given.Add(given, value(current))
			u.close(current)
			if after := uint64(r.Int63n(int64(u.v.Tokens) + 1)); r.Intn(3) == 0 && after < u.v.Tokens {
				u.cut(after)
			}
			claimed := new(big.Int)
			for _, d := range u.held {
				got, n := f1.Claim(u.s, 16, u.v, d)
				claimed.Add(claimed, value(got))
				if n != len(u.cuts) {
					t.Fatalf("P13.4: %d cuts of %d", n, len(u.cuts))
				}
			}
			if claimed.Cmp(given) > 0 {
				t.Fatalf("P13.8: %s are claimed of %s", claimed, given)
			}
		}
	}
}

// P13.1 to P13.5: what is done within a journal is taken back with it, and nothing else.
func TestWithinAJournal(t *testing.T) {
	r := rand.New(rand.NewSource(132))
	s, b := started(t)
	for range 60 {
		s.Begin()
		within := b.copied()
		for range 8 {
			doOne(t, r, s, within)
		}
		wantBook(t, "within a journal", s, within)
		if r.Intn(2) == 0 {
			s.Commit()
			b = within
		} else {
			s.Rollback()
		}
		wantBook(t, "behind a journal", s, b)
	}
}

// P13.1 to P13.5: two stores don't touch one another, and one may be asked by several at once.
func TestStoresApart(t *testing.T) {
	first, b := started(t)
	second, now := first.Copy(), b.copied()
	r := rand.New(rand.NewSource(133))
	for range 100 {
		doOne(t, r, second, now)
	}
	wantBook(t, "beside another store", first, b)
	wantBook(t, "a copy", second, now)
	var all sync.WaitGroup
	failed := make([]bool, 8)
	for i := range failed {
		all.Go(func() {
			for p := range b.pasts {
				v, d := api.Validator{Period: top}, api.Delegation{Stake: dec.Of(7)}
				got, n := f1.Claim(first, p.id, v, d)
				want, along := b.claim(p.id, v, d)
				histories, cuts := f1.Count(first, p.id)
				h, c := b.count(p.id)
				failed[i] = failed[i] || value(got).Cmp(want) != 0 || n != along || histories != h || cuts != c
			}
		})
	}
	all.Wait()
	if slices.Contains(failed, true) {
		t.Errorf("P13.4: asked by several at once: %v", failed)
	}
}
