package bank_test

import (
	"bytes"
	"encoding/binary"
	"maps"
	"math/big"
	"math/rand"
	"slices"
	"testing"

	"glean/api"
	"glean/bank"
	"glean/kv"
)

const (
	top    = ^uint64(0)
	supply = 1_000_000_000_000_000_000
)

// accounts tells ids that are accounts': the modules', and some users', at which a bound or a byte could go wrong.
func accounts() []uint64 {
	return []uint64{1, 2, 3, 4, 16, 17, 18, 255, 256, 0x0102030405060708, 1 << 63, top - 1, top}
}

// nobodies tells all ids that are no account's.
func nobodies() []uint64 {
	return []uint64{0, 5, 6, 7, 8, 9, 10, 11, 12, 13, 14, 15}
}

// counts tells numbers of coins at which a bound or a sum could go wrong.
func counts() []uint64 {
	return []uint64{0, 1, 2, 5, 255, 256, supply - 1, supply, supply + 1, 1 << 63, top - supply, top - supply + 1, top - 1, top}
}

// purse: what the chapter says of an account.
type purse struct{ coins, seq uint64 }

// book: what the chapter says of a store, by none of the project's calls: all accounts that aren't zero, and all that was minted.
type book struct {
	of     map[uint64]purse
	minted *big.Int
}

func newBook() book { return book{map[uint64]purse{}, new(big.Int)} }

// copied tells a book like it.
func (b book) copied() book { return book{maps.Clone(b.of), new(big.Int).Set(b.minted)} }

// put writes an account; one that is zero isn't there.
func (b book) put(id uint64, p purse) {
	b.of[id] = p
	if p == (purse{}) {
		delete(b.of, id)
	}
}

func (b book) isAccount(id uint64) bool { return !slices.Contains(nobodies(), id) }

// above tells whether a sum is above the supply.
func above(x, y uint64) bool {
	sum := new(big.Int).Add(new(big.Int).SetUint64(x), new(big.Int).SetUint64(y))
	return sum.Cmp(big.NewInt(supply)) > 0
}

func (b book) mint(id, n uint64) api.Errno {
	p := b.of[id]
	switch {
	case !b.isAccount(id):
		return 92
	case above(p.coins, n):
		return 91
	}
	b.put(id, purse{p.coins + n, p.seq})
	b.minted.Add(b.minted, new(big.Int).SetUint64(n))
	return 0
}

func (b book) move(from, to, n uint64) api.Errno {
	p, q := b.of[from], b.of[to]
	switch {
	case !b.isAccount(from) || !b.isAccount(to):
		return 92
	case p.coins < n:
		return 90
	case from == to:
		return 0
	case above(q.coins, n):
		return 91
	}
	b.put(from, purse{p.coins - n, p.seq})
	b.put(to, purse{q.coins + n, q.seq})
	return 0
}

func (b book) bump(id uint64) api.Errno {
	if !b.isAccount(id) {
		return 92
	}
	b.put(id, purse{b.of[id].coins, b.of[id].seq + 1})
	return 0
}

// laid tells all entries of a store of that book.
func (b book) laid() []api.Pair {
	var all []api.Pair
	for _, id := range slices.Sorted(maps.Keys(b.of)) {
		all = append(all, api.Pair{
			Key:   binary.BigEndian.AppendUint64([]byte{0x61}, id),
			Value: binary.BigEndian.AppendUint64(binary.BigEndian.AppendUint64(nil, b.of[id].coins), b.of[id].seq),
		})
	}
	return all
}

// sum tells all coins of the book, added one by one.
func (b book) sum() *big.Int {
	all := new(big.Int)
	for _, p := range b.of {
		all.Add(all, new(big.Int).SetUint64(p.coins))
	}
	return all
}

// same tells whether two lists of entries are alike.
func same(x, y []api.Pair) bool {
	return slices.EqualFunc(x, y, func(p, q api.Pair) bool {
		return bytes.Equal(p.Key, q.Key) && bytes.Equal(p.Value, q.Value)
	})
}

// value tells a Nat's value, and whether it is normal.
func value(n api.Nat) (*big.Int, bool) {
	sum := new(big.Int)
	for _, limb := range slices.Backward(n) {
		sum.Lsh(sum, 64).Add(sum, new(big.Int).SetUint64(limb))
	}
	return sum, len(n) == 0 || n[len(n)-1] != 0
}

// wantSum fails unless Sum tells that.
func wantSum(t *testing.T, what string, s *kv.Store, want *big.Int) {
	t.Helper()
	got := bank.Sum(s)
	if sum, normal := value(got); !normal || sum.Cmp(want) != 0 {
		t.Fatalf("%s: Sum: %v, not %v", what, got, want)
	}
}

// wantErr fails unless a call has answered that.
func wantErr(t *testing.T, what string, got, want api.Errno) {
	t.Helper()
	if got != want {
		t.Fatalf("%s: %v, not %v", what, got, want)
	}
}

// wantBook fails unless the store holds what the book says, nothing else, and tells it.
func wantBook(t *testing.T, what string, s *kv.Store, b book) {
	t.Helper()
	if got := s.Dump(); !same(got, b.laid()) {
		t.Fatalf("%s: there lie %x, not %x", what, got, b.laid())
	}
	for _, id := range slices.Concat(accounts(), nobodies()) {
		if got := bank.Get(s, id); got.Coins != b.of[id].coins || got.Seq != b.of[id].seq {
			t.Fatalf("%s: Get(%d): %v, not %v", what, id, got, b.of[id])
		}
	}
	wantSum(t, what, s, b.sum())
}

// begun tells a store and its book with coins and sequences in some accounts: none, few, nearly all, all that may be.
func begun(t *testing.T) (*kv.Store, book) {
	t.Helper()
	s, b := kv.New(), newBook()
	for _, p := range []struct{ id, coins, bumps uint64 }{{1, 5, 0}, {2, supply, 0}, {4, supply - 1, 2}, {16, 255, 1}, {17, 0, 3}, {256, supply, 1}, {top, 2, 0}} {
		wantErr(t, "P9.2: Mint", bank.Mint(s, p.id, p.coins), b.mint(p.id, p.coins))
		for range p.bumps {
			wantErr(t, "P9.2: Bump", bank.Bump(s, p.id), b.bump(p.id))
		}
	}
	return s, b
}

// doOne does a drawn call with the store and the book, and fails if they answer unlike.
func doOne(t *testing.T, r *rand.Rand, s *kv.Store, b book) {
	t.Helper()
	ids := accounts()
	pick := func() uint64 {
		if r.Intn(12) == 0 {
			return nobodies()[r.Intn(len(nobodies()))]
		}
		return ids[r.Intn(len(ids))]
	}
	from, to := pick(), pick()
	n := counts()[r.Intn(len(counts()))]
	if r.Intn(2) == 0 {
		n = r.Uint64() >> r.Intn(64)
	}
	if have := b.of[from].coins; r.Intn(3) == 0 {
		n = have + uint64(r.Intn(3)) - 1
	}
	switch r.Intn(4) {
	case 0:
		wantErr(t, "P9.2: Mint", bank.Mint(s, to, n), b.mint(to, n))
	case 1:
		wantErr(t, "P9.2: Bump", bank.Bump(s, to), b.bump(to))
	default:
		wantErr(t, "P9.2: Move", bank.Move(s, from, to, n), b.move(from, to, n))
	}
}
