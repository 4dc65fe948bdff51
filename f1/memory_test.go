package f1_test

import (
	"math/rand"
	"slices"
	"testing"

	"glean/api"
	"glean/f1"
	"glean/kv"
)

// roomy tells a Dec like d with room behind its limbs, with something in it, as a caller's longer list has.
func roomy(d api.Dec) api.Dec {
	n := len(d.Raw)
	return api.Dec{Raw: append(slices.Clone(d.Raw), 11, 12, 13)[:n]}
}

// roomyVal tells a validator whose Decs are so.
func roomyVal(v api.Validator) api.Validator {
	v.Shares, v.Current, v.Outstanding, v.Commission = roomy(v.Shares), roomy(v.Current), roomy(v.Outstanding), roomy(v.Commission)
	return v
}

// limbs tells the limbs of a validator, a delegation and further Decs, with the room behind them.
func limbs(v api.Validator, d api.Delegation, more ...api.Dec) []api.Nat {
	var all []api.Nat
	for _, x := range append([]api.Dec{v.Shares, v.Current, v.Outstanding, v.Commission, d.Shares, d.Stake}, more...) {
		all = append(all, x.Raw[:cap(x.Raw)])
	}
	return all
}

// spoil writes over each list by itself, and fails if that shows in another one of them.
func spoil(t *testing.T, lists []api.Nat) {
	t.Helper()
	for i, list := range lists {
		for j := range list {
			list[j] = uint64(i) + 1000
		}
	}
	for i, list := range lists {
		for _, limb := range list {
			if limb != uint64(i)+1000 {
				t.Fatal("two lists of one answer share memory")
			}
		}
	}
}

// cloned tells lists like those.
func cloned(lists []api.Nat) []api.Nat {
	var all []api.Nat
	for _, list := range lists {
		all = append(all, slices.Clone(list))
	}
	return all
}

// alike tells whether lists are the same.
func alike(x, y []api.Nat) bool {
	return slices.EqualFunc(x, y, func(a, b api.Nat) bool { return slices.Equal(a, b) })
}

// answers does all calls, and spoils what each answers.
func answers(t *testing.T, s *kv.Store, b *book, v api.Validator, d api.Delegation) {
	t.Helper()
	started := f1.Start(s, 16, v)
	b.start(16, v)
	spoil(t, limbs(started, api.Delegation{}))
	closed, pool := f1.Close(s, 16, v)
	b.close(16, v)
	spoil(t, limbs(closed, api.Delegation{}, pool))
	held := f1.Hold(s, 16, v, d)
	b.hold(16, v, d)
	spoil(t, limbs(api.Validator{}, held))
	cut := f1.Cut(s, 16, v, 3)
	b.cut(16, v, 3)
	spoil(t, limbs(cut, api.Delegation{}))
	claimed, _ := f1.Claim(s, 16, v, d)
	spoil(t, limbs(api.Validator{}, api.Delegation{}, claimed))
	doFree(s, b, 16, d)
}

// DOC.md, what holds everywhere, 3: P13.1 to P13.5 neither change nor keep what they are handed, and answer new memory.
func TestMemory(t *testing.T) {
	r := rand.New(rand.NewSource(134))
	for range 500 {
		s, b := kv.New(), newBook()
		v, d := roomyVal(drawnVal(r)), drawnDelegation(r)
		if r.Intn(2) == 0 {
			v.Tokens = 0
		}
		d.Shares, d.Stake = roomy(d.Shares), roomy(d.Stake)
		handed := limbs(v, d)
		was := cloned(handed)
		answers(t, s, b, v, d)
		if !alike(handed, was) {
			t.Fatal("an argument was changed")
		}
		wantBook(t, "behind spoilt answers", s, b)
		spoil(t, handed)
		wantBook(t, "behind spoilt arguments", s, b)
	}
}

// DOC.md, what holds everywhere, 10: Decs that aren't normal count by their values; what is answered and laid is normal.
func TestNotNormal(t *testing.T) {
	r := rand.New(rand.NewSource(135))
	noughts := func(d api.Dec) api.Dec { return api.Dec{Raw: append(slices.Clone(d.Raw), 0, 0)} }
	for range 300 {
		s, b := kv.New(), newBook()
		v, d := drawnVal(r), drawnDelegation(r)
		v.Shares, v.Current, v.Outstanding, v.Commission = noughts(v.Shares), noughts(v.Current), noughts(v.Outstanding), noughts(v.Commission)
		d.Shares, d.Stake = noughts(d.Shares), noughts(d.Stake)
		doStart(t, s, b, 16, v)
		doClose(t, s, b, 16, v)
		doHold(t, s, b, 16, v, d)
		doCut(t, s, b, 16, v, 5)
		v.Period++
		wantClaim(t, "not normal", s, b, 16, v, d)
		wantBook(t, "not normal", s, b)
	}
}

// DOC.md, what holds everywhere, 2: a nil list and an empty one are the same.
func TestNoLimbs(t *testing.T) {
	none := api.Dec{Raw: api.Nat{}}
	for _, tokens := range []uint64{0, 3} {
		first, second := kv.New(), kv.New()
		b := newBook()
		v := doStart(t, first, b, 16, api.Validator{Tokens: tokens})
		f1.Start(second, 16, api.Validator{Tokens: tokens, Shares: none, Current: none, Outstanding: none, Commission: none})
		d := doHold(t, first, b, 16, v, api.Delegation{})
		f1.Hold(second, 16, v, api.Delegation{Shares: none, Stake: none})
		doClose(t, first, b, 16, v)
		v.Shares, v.Current, v.Outstanding, v.Commission = none, none, none, none
		v, pool := f1.Close(second, 16, v)
		d.Stake = none
		claimed, _ := f1.Claim(second, 16, v, d)
		wantDec(t, "no limbs: what goes to the pool", pool, api.Dec{})
		wantDec(t, "no limbs: Claim", claimed, api.Dec{})
		wantBook(t, "no limbs", first, b)
		wantBook(t, "no limbs", second, b)
	}
}
