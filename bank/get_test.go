package bank_test

import (
	"math/big"
	"slices"
	"testing"

	"glean/api"
	"glean/bank"
	"glean/keys"
	"glean/kv"
	"glean/rec"
)

// P9.1: Get of what isn't there is zero, be it an account's id or not, and lays nothing.
func TestGetOfNothing(t *testing.T) {
	s := kv.New()
	wantBook(t, "P9.1: nothing lies there", s, newBook())
	s, b := begun(t)
	for _, id := range []uint64{0, 3, 5, 15, 18, 255, 1 << 63} {
		if got := bank.Get(s, id); got != (api.Account{}) {
			t.Errorf("P9.1: Get(%d): %v", id, got)
		}
	}
	wantBook(t, "P9.1: behind Gets", s, b)
}

// P9.1: Get tells the record under the account's key, its coins and its sequence.
func TestGetTellsTheRecord(t *testing.T) {
	s := kv.New()
	for i, id := range accounts() {
		k, _ := keys.Make(api.Key{Kind: api.KeyAccount, A: id})
		s.Set(k, rec.PutAccount(api.Account{Coins: uint64(i) << 32, Seq: top - uint64(i)}))
	}
	for i, id := range accounts() {
		if got := bank.Get(s, id); got != (api.Account{Coins: uint64(i) << 32, Seq: top - uint64(i)}) {
			t.Errorf("P9.1: Get(%d): %v", id, got)
		}
	}
}

// P9.1: an account's record lies there just if it isn't 0 coins and sequence 0.
func TestWhatLiesThere(t *testing.T) {
	s, b := kv.New(), newBook()
	for _, id := range accounts() {
		wantErr(t, "P9.1: Mint of nothing", bank.Mint(s, id, 0), api.OK)
		wantErr(t, "P9.1: Move of nothing", bank.Move(s, id, 16, 0), api.OK)
		wantErr(t, "P9.1: Move of nothing", bank.Move(s, 16, id, 0), api.OK)
		wantBook(t, "P9.1: nothing was laid", s, b)
	}
	wantErr(t, "P9.1: Mint", bank.Mint(s, 16, 5), b.mint(16, 5))
	wantBook(t, "P9.1: coins without a sequence", s, b)
	wantErr(t, "P9.1: Bump", bank.Bump(s, 17), b.bump(17))
	wantBook(t, "P9.1: a sequence without coins", s, b)
	wantErr(t, "P9.1: Move", bank.Move(s, 16, 17, 5), b.move(16, 17, 5))
	wantBook(t, "P9.1: 16 has given all", s, b)
	wantErr(t, "P9.1: Move", bank.Move(s, 17, 16, 5), b.move(17, 16, 5))
	wantBook(t, "P9.1: 17 has given all, and keeps its sequence", s, b)
}

// P9.1: Sum is of all accounts, the modules' too, and may be above a uint64.
func TestSum(t *testing.T) {
	s, want := kv.New(), new(big.Int)
	wantSum(t, "P9.1: no account", s, want)
	for id := uint64(16); id < 100; id++ {
		wantErr(t, "P9.2: Mint", bank.Mint(s, id, supply), api.OK)
		wantSum(t, "P9.1: all that may be", s, want.Add(want, big.NewInt(supply)))
	}
	for i, id := range []uint64{1, 2, 3, 4, top, 1 << 63} {
		wantErr(t, "P9.2: Mint", bank.Mint(s, id, uint64(i+1)), api.OK)
		wantSum(t, "P9.1: one more account", s, want.Add(want, big.NewInt(int64(i+1))))
	}
}

// P9.1: whatever else lies in a store is no account's: Sum leaves it out.
func TestSumOfAccountsAlone(t *testing.T) {
	s, b := begun(t)
	for kind := 1; kind <= api.KeyCount; kind++ {
		if kind == api.KeyAccount {
			continue
		}
		for _, k := range []api.Key{{Kind: kind}, {Kind: kind, A: 16}, {Kind: kind, A: 16, B: 16}, {Kind: kind, A: top, B: top}} {
			if made, e := keys.Make(k); e == api.OK {
				s.Set(made, rec.PutAccount(api.Account{Coins: 7, Seq: 7}))
			}
		}
	}
	wantSum(t, "P9.1: other records lie beside", s, b.sum())
	for _, id := range slices.Concat(accounts(), nobodies()) {
		if got := bank.Get(s, id); got.Coins != b.of[id].coins || got.Seq != b.of[id].seq {
			t.Errorf("P9.1: Get(%d) with other records beside: %v, not %v", id, got, b.of[id])
		}
	}
}

// P9.1: what Sum answers is new memory.
func TestWhatSumAnswers(t *testing.T) {
	s, b := begun(t)
	first, second := bank.Sum(s), bank.Sum(s)
	for i := range first {
		first[i] = 77
	}
	_ = append(first, 78)
	if sum, _ := value(second); sum.Cmp(b.sum()) != 0 {
		t.Errorf("P9.1: two answers of Sum share memory: %v", second)
	}
	wantBook(t, "P9.1: behind a changed answer", s, b)
}
