package dist_test

import (
	"math/rand"
	"slices"
	"testing"

	"glean/api"
	"glean/dec"
	"glean/dist"
	"glean/kv"
)

// roomy tells a Dec like d with room behind its limbs, with something in it, as a caller's longer list has.
func roomy(d api.Dec) api.Dec {
	n := len(d.Raw)
	return api.Dec{Raw: append(slices.Clone(d.Raw), 11, 12, 13)[:n]}
}

// decsOf tells the Decs of a validator.
func decsOf(v api.Validator) []api.Dec {
	return []api.Dec{v.Shares, v.Current, v.Outstanding, v.Commission}
}

// limbs tells the limbs of Decs, with the room behind them.
func limbs(all ...api.Dec) []api.Nat {
	var lists []api.Nat
	for _, d := range all {
		lists = append(lists, d.Raw[:cap(d.Raw)])
	}
	return lists
}

// spoil writes over each list by itself, and fails if that shows in another one of them.
func spoil(t *testing.T, lists []api.Nat) {
	t.Helper()
	for i, list := range lists {
		for j := range list {
			list[j] = uint64(i) + 1000
		}
	}
	for i, list := range lists {
		for _, limb := range list {
			if limb != uint64(i)+1000 {
				t.Fatal("two lists of one answer share memory")
			}
		}
	}
}

// cloned tells lists like those.
func cloned(lists []api.Nat) []api.Nat {
	var all []api.Nat
	for _, list := range lists {
		all = append(all, slices.Clone(list))
	}
	return all
}

// alike tells whether lists are the same.
func alike(x, y []api.Nat) bool {
	return slices.EqualFunc(x, y, func(a, b api.Nat) bool { return slices.Equal(a, b) })
}

// answers does all calls that answer Decs, and spoils what each answers.
func answers(t *testing.T, s *kv.Store, b *book, v api.Validator, d api.Delegation) {
	t.Helper()
	dist.SetVal(s, 16, v)
	dist.SetDelegation(s, 16, 20, d)
	dist.Pour(s, v.Current)
	b.vals[16], b.dels[pair{16, 20}] = normalVal(v), normalDelegation(d)
	b.pour(value(v.Current))
	got, _ := dist.Val(s, 16)
	other, _ := dist.Delegation(s, 16, 20)
	spoil(t, limbs(append(decsOf(got), other.Shares, other.Stake, dist.Pool(s))...))
	spoil(t, limbs(decsOf(dist.Give(v, d.Shares))...))
	settled, paid := dist.Settle(s, 16, v, 20)
	b.settle(16, v, 20)
	spoil(t, limbs(append(decsOf(settled), paid.Q, paid.Left, paid.Shares)...))
	settled, paid = dist.Settle(s, 16, v, 99)
	spoil(t, limbs(append(decsOf(settled), paid.Q, paid.Left, paid.Shares)...))
	paid, _ = dist.Withdraw(s, 16, 20)
	b.withdraw(16, 20)
	spoil(t, limbs(paid.Q, paid.Left, paid.Shares))
	var all []api.Dec
	for _, gave := range dist.Allocate(s) {
		all = append(all, gave.Q, gave.Left, gave.Shares)
	}
	b.allocate()
	spoil(t, limbs(all...))
}

// DOC.md, what holds everywhere, 3: P14.1 to P14.5 neither change nor keep what they are handed, and answer new memory.
func TestMemory(t *testing.T) {
	r := rand.New(rand.NewSource(163))
	for range 500 {
		b := drawnBook(r)
		b.bonded[16], b.bonded[17] = true, true
		b.purses[collector], b.purses[shared] = api.Account{Coins: 100}, api.Account{Coins: uint64(r.Intn(2)) * 1000}
		s, v, d := b.store(), drawnVal(r), drawnDelegation(r)
		v.Shares, v.Current, v.Outstanding, v.Commission = roomy(v.Shares), roomy(v.Current), roomy(v.Outstanding), roomy(v.Commission)
		d.Shares, d.Stake = roomy(d.Shares), roomy(d.Stake)
		handed := limbs(append(decsOf(v), d.Shares, d.Stake)...)
		was := cloned(handed)
		answers(t, s, b, v, d)
		if !alike(handed, was) {
			t.Fatal("an argument was changed")
		}
		wantBook(t, "behind spoilt answers", s, b)
		spoil(t, handed)
		wantBook(t, "behind spoilt arguments", s, b)
	}
}

// DOC.md, what holds everywhere, 10: Decs that aren't normal count by their values; what is answered and laid is normal.
func TestNotNormal(t *testing.T) {
	r := rand.New(rand.NewSource(164))
	noughts := func(d api.Dec) api.Dec { return api.Dec{Raw: append(slices.Clone(d.Raw), 0, 0)} }
	for range 500 {
		b := drawnBook(r)
		s, v, d := b.store(), drawnVal(r), drawnDelegation(r)
		v.Shares, v.Current, v.Outstanding, v.Commission = noughts(v.Shares), noughts(v.Current), noughts(v.Outstanding), noughts(v.Commission)
		d.Shares, d.Stake = noughts(d.Shares), noughts(d.Stake)
		dist.SetDelegation(s, 16, 20, d)
		b.dels[pair{16, 20}] = normalDelegation(d)
		given, _ := b.give(v, value(d.Shares))
		wantVal(t, "not normal: Give", dist.Give(v, d.Shares), given)
		got, paid := dist.Settle(s, 16, v, 20)
		want, wanted := b.settle(16, v, 20)
		wantVal(t, "not normal: Settle", got, want)
		wantPaid(t, "not normal: Settle", paid, wanted)
		dist.SetVal(s, 16, v)
		b.vals[16] = normalVal(v)
		doWithdraw(t, s, b, 16, 20)
		wantBook(t, "not normal", s, b)
	}
}

// DOC.md, what holds everywhere, 2: a nil list and an empty one are the same.
func TestNoLimbs(t *testing.T) {
	none := api.Dec{Raw: api.Nat{}}
	empty := api.Validator{Tokens: 3, Shares: none, Current: none, Outstanding: none, Commission: none}
	wantVal(t, "no limbs: Give", dist.Give(empty, none), api.Validator{Tokens: 3})
	s, b := kv.New(), newBook()
	dist.Pour(s, none)
	dist.SetVal(s, 16, empty)
	dist.SetDelegation(s, 16, 20, api.Delegation{Shares: none, Stake: none})
	b.vals[16], b.dels[pair{16, 20}] = api.Validator{Tokens: 3}, api.Delegation{}
	wantBook(t, "no limbs", s, b)
	doWithdraw(t, s, b, 16, 20)
	wantBook(t, "no limbs", s, b)
	got, _ := dist.Settle(s, 16, empty, 99)
	wantVal(t, "no limbs: Settle", got, api.Validator{Tokens: 3})
	wantDec(t, "no limbs: Give", dist.Give(empty, dec.Of(1)).Current, dec.Of(1))
}
