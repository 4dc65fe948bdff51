package stake_test

import (
	"math/big"
	"math/rand"
	"slices"
	"testing"

	"glean/api"
	"glean/bank"
	"glean/dec"
	"glean/dist"
	"glean/keys"
	"glean/kv"
	"glean/stake"
)

// P15.2 to P15.9: whatever is done, in whatever order, there lies what the chapter says, and it is told.
func TestWhateverIsDone(t *testing.T) {
	r := rand.New(rand.NewSource(171))
	done := map[string]int{}
	for range 150 {
		s, b := drawnRun(r)
		all := bank.Sum(s)
		for range 150 {
			step(t, r, s, b)
			wantHouses(t, s, b)
			if got := bank.Sum(s); !slices.Equal(got, all) {
				t.Fatalf("P15.10: %v coins, not %v", got, all)
			}
			done["unbondings"] += len(b.unbondings)
			done["moves"] += len(b.moves)
			done["cuts"] += len(b.cuts)
			for _, v := range b.vals {
				if v.Bonded {
					done["bonded"]++
				}
				if v.Tokens == 0 {
					done["without tokens"]++
				}
				if v.Jailed {
					done["jailed"]++
				}
			}
		}
	}
	for _, what := range []string{"unbondings", "moves", "cuts", "bonded", "without tokens", "jailed"} {
		if done[what] < 500 {
			t.Errorf("the drawn runs have too few %s: %d", what, done[what])
		}
	}
}

// wantHouses fails unless P15.10 and P15.11 hold of a store, asked by the layers below.
func wantHouses(t *testing.T, s *kv.Store, b *book) {
	t.Helper()
	var tied, free uint64
	owed := dist.Pool(s)
	parts := map[uint64]*big.Int{}
	for p := range b.dels {
		d, _ := dist.Delegation(s, p.val, p.del)
		if parts[p.val] == nil {
			parts[p.val] = new(big.Int)
		}
		parts[p.val].Add(parts[p.val], value(d.Shares))
	}
	for id := range b.vals {
		v, _ := dist.Val(s, id)
		if v.Bonded {
			tied += v.Tokens
		} else {
			free += v.Tokens
		}
		owed = dec.Add(owed, v.Outstanding)
		if parts[id] == nil || value(v.Shares).Cmp(parts[id]) != 0 || parts[id].Cmp(most) > 0 {
			t.Fatalf("P15.11: %d has %s shares, its delegations %v", id, dec.Text(v.Shares), parts[id])
		}
	}
	for _, u := range b.unbondings {
		free += u.Balance
	}
	wantCoins(t, "P15.10: Bonded's coins", bank.Get(s, api.Bonded).Coins, tied)
	wantCoins(t, "P15.10: Loose's coins", bank.Get(s, api.Loose).Coins, free)
	wantDec(t, "P15.10: Shared's coins", dec.Of(bank.Get(s, api.Shared).Coins), owed)
}

// wantRates fails if Tokens by Shares has fallen, of a validator that is still there.
func wantRates(t *testing.T, was, now map[uint64]api.Validator) {
	t.Helper()
	for id, v := range was {
		w, there := now[id]
		if there && new(big.Int).Mul(whole(w.Tokens), value(v.Shares)).Cmp(new(big.Int).Mul(whole(v.Tokens), value(w.Shares))) < 0 {
			t.Fatalf("P15.11: of %d, %d by %s has fallen to %d by %s", id, v.Tokens, dec.Text(v.Shares), w.Tokens, dec.Text(w.Shares))
		}
	}
}

// vals tells all validators of a store, asked by the layer below.
func vals(s *kv.Store) map[uint64]api.Validator {
	all := map[uint64]api.Validator{}
	for _, id := range users() {
		if v, there := dist.Val(s, id); there {
			all[id] = v
		}
	}
	return all
}

// P15.11: Tokens by Shares never fall by these calls; P15.12: what Undelegate tells is what was wished for, at least; no key of an ended one is left.
func TestRates(t *testing.T) {
	r := rand.New(rand.NewSource(172))
	wished, ended := 0, 0
	for range 100 {
		s, b := drawnRun(r)
		b.params = []api.Params{{Max: 3, Unbond: 2, Entries: 99}}
		b.lay(s)
		for range 100 {
			step(t, r, s, b)
			was := vals(s)
			val, del := drawnPair(r, b)
			other, n := drawnUser(r), drawnCoins(r)
			switch r.Intn(4) {
			case 0:
				stake.Create(s, val, n, n)
			case 1:
				stake.Delegate(s, val, del, n)
			case 2:
				got, _, e := stake.Undelegate(s, val, del, n)
				if e == api.OK && got < n {
					t.Fatalf("P15.12: %d for %d", got, n)
				}
				if e == api.OK && n > 0 {
					wished++
				}
			default:
				got, _, e := stake.Redelegate(s, val, other, del, n)
				if e == api.OK && got < max(n, 1) {
					t.Fatalf("P15.8, P15.12: %d for %d", got, n)
				}
			}
			now := vals(s)
			wantRates(t, was, now)
			for id := range was {
				if _, there := now[id]; there {
					continue
				}
				ended++
				for k := range s.Prefix(keys.Val(id)) {
					t.Fatalf("P15.11: of %d, %x is left", id, k)
				}
			}
			b.lay(s)
		}
	}
	if wished < 100 || ended < 100 {
		t.Errorf("P15.11, P15.12: only %d wishes, %d ends", wished, ended)
	}
}

// P15.12: one who joined t and undelegates all at once, alone, gets t.
func TestAloneAllComesBack(t *testing.T) {
	for _, n := range []uint64{1, 2, 3, 7, 10, 9999, 1 << 32, supply - 1, supply} {
		for _, elected := range []bool{false, true} {
			for _, wish := range []uint64{0, n} {
				b := newBook()
				b.params = []api.Params{{Max: 1, Entries: 1}}
				b.mint(16, n)
				s := b.store()
				doCreate(t, s, b, 16, 77, n)
				if elected {
					doElect(t, s, b)
				}
				r, _, e := stake.Undelegate(s, 16, 16, wish)
				wantErr(t, "P15.12: alone", e, api.OK)
				wantCoins(t, "P15.12: alone", r, n)
				b.undelegate(16, 16, wish)
				wantBook(t, "P15.12: alone", s, b)
				doMature(t, s, b)
				wantCoins(t, "P15.12: alone", bank.Get(s, 16).Coins, n)
			}
		}
	}
}

// P15.4, P15.11: shares stay at most 10^54, however often tokens are cut to nearly nothing and joined again.
func TestSharesAreBounded(t *testing.T) {
	b := newBook()
	b.params = []api.Params{{Max: 1, Entries: 1}}
	b.mint(16, 1)
	b.mint(17, supply/2)
	s := b.store()
	doCreate(t, s, b, 16, 0, 1)
	refused := 0
	for range 12 {
		_, _, e := stake.Delegate(s, 16, 17, supply/10)
		b.delegate(16, 17, supply/10)
		wantBook(t, "P15.4: once more", s, b)
		if e == api.ErrShareBig {
			refused++
			continue
		}
		wantErr(t, "P15.4: once more", e, api.OK)
		for b.vals[16].Tokens > 1 {
			b.fault(16, 9999, false)
			if b.vals[16].Tokens < 10001 {
				b.fault(16, 5000, false)
			}
		}
		b.move(shared, 17, supply/10) // what was cut, so that it can be bound again
		b.pool = coins(b.purses[shared].Coins)
		b.lay(s)
	}
	if refused == 0 || value(b.vals[16].Shares).Cmp(most) > 0 {
		t.Errorf("P15.11: %d were refused, %s shares", refused, dec.Text(b.vals[16].Shares))
	}
}
