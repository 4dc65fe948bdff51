package bank_test

import (
	"slices"
	"testing"

	"glean/api"
	"glean/bank"
	"glean/kv"
)

// everyId tells ids that are accounts' and ids that aren't.
func everyId() []uint64 { return slices.Concat(accounts(), nobodies()) }

// P9.2: the numbers of the errors, of the modules and the bound are the chapter's.
func TestNumbers(t *testing.T) {
	if api.ErrBankShort != 90 || api.ErrBankMuch != 91 || api.ErrBankId != 92 || api.MaxSupply != supply {
		t.Errorf("P9.2: the chapter's numbers are others")
	}
	if !slices.Equal([]int{api.Collector, api.Bonded, api.Loose, api.Shared, api.FirstUser}, []int{1, 2, 3, 4, 16}) {
		t.Errorf("P9.2: the chapter's ids are others")
	}
}

// P9.2: Mint of any account and any number: refused, or as many coins more, and nothing else.
func TestMint(t *testing.T) {
	s, b := begun(t)
	for _, id := range everyId() {
		for _, n := range counts() {
			own, now := s.Copy(), b.copied()
			wantErr(t, "P9.2: Mint", bank.Mint(own, id, n), now.mint(id, n))
			wantBook(t, "P9.2: behind Mint", own, now)
		}
	}
}

// P9.2: up to the bound, not one past it; a sum that passes 2^64 is past it.
func TestMintAtTheBound(t *testing.T) {
	s := kv.New()
	wantErr(t, "P9.2: one past the bound", bank.Mint(s, 16, supply+1), api.ErrBankMuch)
	wantErr(t, "P9.2: nearly the bound", bank.Mint(s, 16, supply-1), api.OK)
	wantErr(t, "P9.2: two more", bank.Mint(s, 16, 2), api.ErrBankMuch)
	wantErr(t, "P9.2: past 2^64", bank.Mint(s, 16, top-supply+2), api.ErrBankMuch)
	wantErr(t, "P9.2: one more", bank.Mint(s, 16, 1), api.OK)
	wantErr(t, "P9.2: one past it", bank.Mint(s, 16, 1), api.ErrBankMuch)
	wantErr(t, "P9.2: none more", bank.Mint(s, 16, 0), api.OK)
	if got := bank.Get(s, 16); got != (api.Account{Coins: supply}) {
		t.Errorf("P9.2: at the bound: %v", got)
	}
}

// P9.2: Move between any two ids, of any number: refused by the first error, or as many fewer and more, and nothing else.
func TestMove(t *testing.T) {
	s, b := begun(t)
	for _, from := range everyId() {
		have := b.of[from].coins
		for _, to := range everyId() {
			for _, n := range append(counts(), have-1, have, have+1) {
				if e := b.copied().move(from, to, n); e != api.OK {
					wantErr(t, "P9.2: Move", bank.Move(s, from, to, n), e)
					if got := s.Dump(); !same(got, b.laid()) {
						t.Fatalf("P9.3: behind a refused Move(%d, %d, %d): %x", from, to, n, got)
					}
					continue
				}
				own, now := s.Copy(), b.copied()
				wantErr(t, "P9.2: Move", bank.Move(own, from, to, n), now.move(from, to, n))
				wantBook(t, "P9.2: behind Move", own, now)
			}
		}
	}
}

// P9.2: where several errors apply, no account comes ahead of too few coins, and that ahead of too many.
func TestWhichErrorComesFirst(t *testing.T) {
	s := kv.New()
	bank.Mint(s, 16, 5)
	bank.Mint(s, 17, supply)
	for _, c := range []struct {
		from, to, n uint64
		want        api.Errno
	}{
		{5, 17, 6, api.ErrBankId},
		{16, 5, 6, api.ErrBankId},
		{5, 5, 0, api.ErrBankId},
		{0, 16, 0, api.ErrBankId},
		{16, 15, 0, api.ErrBankId},
		{16, 17, 6, api.ErrBankShort},
		{16, 17, top, api.ErrBankShort},
		{16, 16, 6, api.ErrBankShort},
		{18, 17, 1, api.ErrBankShort},
		{18, 18, 1, api.ErrBankShort},
		{16, 17, 5, api.ErrBankMuch},
		{16, 17, 1, api.ErrBankMuch},
		{16, 17, 0, api.OK},
		{18, 17, 0, api.OK},
		{17, 17, supply, api.OK},
		{17, 17, 0, api.OK},
	} {
		wantErr(t, "P9.2: Move", bank.Move(s, c.from, c.to, c.n), c.want)
	}
	wantErr(t, "P9.2: Mint of nobody, and too much", bank.Mint(s, 5, top), api.ErrBankId)
}

// P9.2: to itself nothing changes, not even at the bound.
func TestMoveToItself(t *testing.T) {
	s, b := begun(t)
	for _, id := range accounts() {
		for _, n := range []uint64{0, 1, b.of[id].coins} {
			if n <= b.of[id].coins {
				wantErr(t, "P9.2: to itself", bank.Move(s, id, id, n), api.OK)
				wantBook(t, "P9.2: to itself", s, b)
			}
		}
	}
}

// P9.2: Bump makes a sequence one greater, and leaves the coins; no account has none.
func TestBump(t *testing.T) {
	s, b := begun(t)
	for range 3 {
		for _, id := range everyId() {
			wantErr(t, "P9.2: Bump", bank.Bump(s, id), b.bump(id))
			wantBook(t, "P9.2: behind Bump", s, b)
		}
	}
}

// P9.2: behind 2^64 - 1 a sequence is 0, and of an account without coins nothing lies there then.
func TestBumpGoesRound(t *testing.T) {
	s, b := kv.New(), newBook()
	for id, coins := range map[uint64]uint64{16: 0, 17: 9} {
		b.put(id, purse{coins, top - 1})
	}
	for _, p := range b.laid() {
		s.Set(p.Key, p.Value)
	}
	for range 3 {
		for _, id := range []uint64{16, 17} {
			wantErr(t, "P9.2: Bump", bank.Bump(s, id), b.bump(id))
			wantBook(t, "P9.2: round 2^64", s, b)
		}
	}
}

// P9.2: the chapter's examples.
func TestExamples(t *testing.T) {
	s, b := kv.New(), newBook()
	wantErr(t, "P9.2: Mint", bank.Mint(s, 16, 5), api.OK)
	wantErr(t, "P9.2: Move", bank.Move(s, 16, 17, 5), api.OK)
	b.mint(17, 5)
	wantBook(t, "P9.2: under 16 nothing lies", s, b)
	wantErr(t, "P9.2: Move", bank.Move(s, 17, 16, 6), api.ErrBankShort)
	wantErr(t, "P9.2: Move", bank.Move(s, 17, 17, 5), api.OK)
	wantErr(t, "P9.2: Mint", bank.Mint(s, 5, 1), api.ErrBankId)
	wantBook(t, "P9.2: nothing changes", s, b)
}
