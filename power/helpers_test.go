package power_test

import (
	"bytes"
	"cmp"
	"encoding/binary"
	"maps"
	"math"
	"math/rand"
	"slices"
	"testing"

	"glean/api"
	"glean/kv"
	"glean/power"
)

const top = ^uint64(0)

// numbers tells numbers, of validators and of tokens, at which a byte or its order could go wrong.
func numbers() []uint64 {
	return []uint64{0, 1, 2, 5, 9, 16, 17, 127, 128, 255, 256, 0x0102030405060708, 1<<63 - 1, 1 << 63, top - 256, top - 255, top - 1, top}
}

// seat: a validator's place in the index.
type seat struct{ v, tokens uint64 }

// ahead tells how two seats stand to one another: the most tokens first, of as many the lesser validator.
func ahead(x, y seat) int {
	return cmp.Or(cmp.Compare(y.tokens, x.tokens), cmp.Compare(x.v, y.v))
}

// book: what the chapter says of a store, by none of the project's calls.
type book struct {
	seats  map[seat]bool
	bonded map[uint64]bool
}

func newBook() book { return book{map[seat]bool{}, map[uint64]bool{}} }

// copied tells a book like it.
func (b book) copied() book { return book{maps.Clone(b.seats), maps.Clone(b.bonded)} }

// bond does what Bond must.
func (b book) bond(v uint64, on bool) {
	delete(b.bonded, v)
	if on {
		b.bonded[v] = true
	}
}

// inOrder tells the seats as the chapter orders them.
func (b book) inOrder() []seat { return slices.SortedFunc(maps.Keys(b.seats), ahead) }

// top tells what Top must.
func (b book) top(n int) []uint64 {
	var all []uint64
	for i, s := range b.inOrder() {
		if i < n {
			all = append(all, s.v)
		}
	}
	return all
}

// laid tells all keys of a store of that book, rising.
func (b book) laid() [][]byte {
	var all [][]byte
	for _, v := range slices.Sorted(maps.Keys(b.bonded)) {
		all = append(all, binary.BigEndian.AppendUint64([]byte{0x62}, v))
	}
	for _, s := range b.inOrder() {
		begin := binary.BigEndian.AppendUint64([]byte{0x69}, top-s.tokens)
		all = append(all, binary.BigEndian.AppendUint64(begin, s.v))
	}
	return all
}

// wantLaid fails unless the store has just the book's keys, with values without bytes.
func wantLaid(t *testing.T, what string, s *kv.Store, b book) {
	t.Helper()
	got := s.Dump()
	same := slices.EqualFunc(got, b.laid(), func(p api.Pair, k []byte) bool {
		return bytes.Equal(p.Key, k) && len(p.Value) == 0
	})
	if !same {
		t.Fatalf("%s: there lie %x, not %x", what, got, b.laid())
	}
}

// wantTold fails unless Top and Bonded tell what the book does, Top by no more operations than it may take.
func wantTold(t *testing.T, what string, s *kv.Store, b book) {
	t.Helper()
	for _, n := range []int{math.MinInt, -1, 0, 1, 2, 3, 31, 33, len(b.seats) - 1, len(b.seats), len(b.seats) + 1, math.MaxInt} {
		was := s.Ops()
		got := power.Top(s, n)
		took := s.Ops() - was
		if want := b.top(n); !slices.Equal(got, want) {
			t.Fatalf("P11.1: %s: Top(%d): %v, not %v", what, n, got, want)
		}
		if took-2 > max(n, 0) {
			t.Fatalf("P11.1: %s: Top(%d) took %d operations", what, n, took)
		}
	}
	if got, want := power.Bonded(s), slices.Sorted(maps.Keys(b.bonded)); !slices.Equal(got, want) {
		t.Fatalf("P11.2: %s: Bonded: %v, not %v", what, got, want)
	}
}

// wantBook fails unless the store holds what the book says, nothing else, and tells it.
func wantBook(t *testing.T, what string, s *kv.Store, b book) {
	t.Helper()
	wantLaid(t, what, s, b)
	wantTold(t, what, s, b)
	wantLaid(t, what+", and was asked", s, b)
}

// drawn draws a number, some of them the same ones again and again.
func drawn(r *rand.Rand) uint64 {
	if r.Intn(2) == 0 {
		return numbers()[r.Intn(len(numbers()))]
	}
	return r.Uint64() >> r.Intn(64)
}

// picked draws a seat that is there, or one beside it.
func (b book) picked(r *rand.Rand) seat {
	all := b.inOrder()
	if len(all) == 0 || r.Intn(4) == 0 {
		return seat{drawn(r), drawn(r)}
	}
	p := all[r.Intn(len(all))]
	if r.Intn(3) == 0 {
		p.tokens++
	}
	return p
}

// doOne does a drawn call with the store and the book.
func doOne(r *rand.Rand, s *kv.Store, b book) {
	switch r.Intn(5) {
	case 0, 1:
		p := seat{drawn(r), drawn(r)}
		power.Put(s, p.v, p.tokens)
		b.seats[p] = true
	case 2:
		p := b.picked(r)
		power.Drop(s, p.v, p.tokens)
		delete(b.seats, p)
	default:
		v, on := drawn(r), r.Intn(2) == 0
		power.Bond(s, v, on)
		b.bond(v, on)
	}
}

// begun tells a store and its book with some seats and some bonded.
func begun() (*kv.Store, book) {
	s, b := kv.New(), newBook()
	r := rand.New(rand.NewSource(110))
	for range 80 {
		doOne(r, s, b)
	}
	return s, b
}
