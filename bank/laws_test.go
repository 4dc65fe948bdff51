package bank_test

import (
	"math/rand"
	"slices"
	"sync"
	"testing"

	"glean/api"
	"glean/bank"
	"glean/kv"
)

// P9.3: whatever is done, there lie just accounts' records, and Sum is what was minted.
func TestWhateverIsDone(t *testing.T) {
	r := rand.New(rand.NewSource(93))
	for range 60 {
		s, b := kv.New(), newBook()
		for range 150 {
			doOne(t, r, s, b)
			wantBook(t, "P9.3: behind a call", s, b)
			wantSum(t, "P9.3: what was minted", s, b.minted)
		}
	}
}

// P9.3: a refused call changes nothing, whatever lies there.
func TestRefusedCallsChangeNothing(t *testing.T) {
	s, b := begun(t)
	for _, e := range []api.Errno{
		bank.Mint(s, 0, 1),
		bank.Mint(s, 15, 0),
		bank.Mint(s, 2, 1),
		bank.Mint(s, 4, 2),
		bank.Mint(s, 18, top),
		bank.Move(s, 1, 5, 1),
		bank.Move(s, 5, 1, 0),
		bank.Move(s, 1, 18, 6),
		bank.Move(s, 18, 18, 1),
		bank.Move(s, 16, 2, 1),
		bank.Move(s, 16, 4, 2),
		bank.Bump(s, 0),
		bank.Bump(s, 15),
	} {
		if e == api.OK {
			t.Errorf("P9.3: what had to be refused wasn't")
		}
	}
	wantBook(t, "P9.3: behind refused calls", s, b)
}

// P9.3: what is done within a journal is taken back with it, and nothing else.
func TestWithinAJournal(t *testing.T) {
	r := rand.New(rand.NewSource(94))
	s, b := kv.New(), newBook()
	for range 100 {
		s.Begin()
		within := b.copied()
		for range 10 {
			doOne(t, r, s, within)
		}
		wantBook(t, "P9.3: within a journal", s, within)
		if r.Intn(2) == 0 {
			s.Commit()
			b = within
		} else {
			s.Rollback()
		}
		wantBook(t, "P9.3: behind a journal", s, b)
	}
}

// P9.3: two stores don't touch one another, and one may be asked by several at once.
func TestStoresApart(t *testing.T) {
	first, b := begun(t)
	second, now := first.Copy(), b.copied()
	r := rand.New(rand.NewSource(95))
	for range 300 {
		doOne(t, r, second, now)
	}
	wantBook(t, "P9.3: beside another store", first, b)
	wantBook(t, "P9.3: a copy", second, now)
	var all sync.WaitGroup
	failed := make([]bool, 8)
	for i := range failed {
		all.Go(func() {
			for range 50 {
				sum, normal := value(bank.Sum(first))
				failed[i] = failed[i] || !normal || sum.Cmp(b.sum()) != 0
				for _, id := range accounts() {
					failed[i] = failed[i] || bank.Get(first, id).Coins != b.of[id].coins
				}
			}
		})
	}
	all.Wait()
	if slices.Contains(failed, true) {
		t.Errorf("P9.3: asked by several at once: %v", failed)
	}
}
