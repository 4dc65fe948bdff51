package queue_test

import (
	"bytes"
	"cmp"
	"encoding/binary"
	"maps"
	"math/rand"
	"slices"
	"testing"

	"glean/api"
	"glean/kv"
	"glean/queue"
)

const top = ^uint64(0)

// numbers tells numbers, of heights, ids and entries, at which a byte or its order could go wrong.
func numbers() []uint64 {
	return []uint64{0, 1, 2, 5, 16, 17, 127, 128, 255, 256, 0x0102030405060708, 1<<63 - 1, 1 << 63, top - 256, top - 255, top - 1, top}
}

// item: an entry as the chapter tells it; val is an unbonding's Val, a move's Src.
type item struct {
	id, del, val, due uint64
	kind              int
	unbonding         api.Unbonding
	move              api.Move
}

// entry tells what Due and From must of an item.
func (i item) entry() api.Entry { return api.Entry{Id: i.id, Kind: i.kind} }

// pair: a delegator and a validator.
type pair struct{ del, val uint64 }

// book: what the chapter says of a store, by none of the project's calls.
type book struct {
	begun        bool // whether a chain record lies there
	height, next uint64
	items        map[uint64]item
}

func newBook() *book { return &book{items: map[uint64]item{}} }

// copied tells a book like it; items are never changed in place.
func (b *book) copied() *book {
	return &book{b.begun, b.height, b.next, maps.Clone(b.items)}
}

// add writes an item with the next number, and tells that.
func (b *book) add(i item) uint64 {
	i.id = b.next
	b.begun = true
	b.next++
	b.items[i.id] = i
	return i.id
}

func (b *book) unbond(u api.Unbonding) uint64 {
	return b.add(item{del: u.Del, val: u.Val, due: u.Due, kind: api.KeyUnbonding, unbonding: u})
}

func (b *book) shift(m api.Move) uint64 {
	m.Shares.Raw = normal(m.Shares.Raw)
	return b.add(item{del: m.Del, val: m.Src, due: m.Due, kind: api.KeyMove, move: m})
}

// less does what Less must.
func (b *book) less(id, balance uint64) bool {
	i, there := b.items[id]
	if !there || i.kind != api.KeyUnbonding {
		return false
	}
	i.unbonding.Balance = balance
	b.items[id] = i
	return true
}

// fewer does what Fewer must.
func (b *book) fewer(id uint64, shares api.Dec) bool {
	i, there := b.items[id]
	if !there || i.kind != api.KeyMove {
		return false
	}
	i.move.Shares.Raw = normal(shares.Raw)
	b.items[id] = i
	return true
}

// drop does what Drop must.
func (b *book) drop(e api.Entry) bool {
	i, there := b.items[e.Id]
	if !there || i.kind != e.Kind {
		return false
	}
	delete(b.items, e.Id)
	return true
}

// chosen tells the items that are wanted, by when they are due, then by number.
func (b *book) chosen(want func(item) bool) []item {
	var all []item
	for i := range maps.Values(b.items) {
		if want(i) {
			all = append(all, i)
		}
	}
	slices.SortFunc(all, func(x, y item) int { return cmp.Or(cmp.Compare(x.due, y.due), cmp.Compare(x.id, y.id)) })
	return all
}

// due tells what Due must.
func (b *book) due(height uint64) []api.Entry {
	var all []api.Entry
	for _, i := range b.chosen(func(i item) bool { return i.due <= height }) {
		all = append(all, i.entry())
	}
	return all
}

// from tells what From must.
func (b *book) from(v uint64) []api.Entry {
	var all []api.Entry
	for _, i := range b.chosen(func(i item) bool { return i.val == v }) {
		all = append(all, i.entry())
	}
	slices.SortFunc(all, func(x, y api.Entry) int { return cmp.Compare(x.Id, y.Id) })
	return all
}

// counts tells how many entries each pair has.
func (b *book) counts() map[pair]uint64 {
	all := map[pair]uint64{}
	for _, i := range b.items {
		all[pair{i.del, i.val}]++
	}
	return all
}

// normal tells a number's limbs without noughts at their end.
func normal(n api.Nat) api.Nat {
	n = slices.Clone(n)
	for len(n) > 0 && n[len(n)-1] == 0 {
		n = n[:len(n)-1]
	}
	return n
}

// spelt tells the bytes of numbers, the highest byte first.
func spelt(begin []byte, all ...uint64) []byte {
	b := slices.Clone(begin)
	for _, n := range all {
		b = binary.BigEndian.AppendUint64(b, n)
	}
	return b
}

// value tells the bytes of an item's record.
func (i item) value() []byte {
	if u := i.unbonding; i.kind == api.KeyUnbonding {
		return spelt(nil, u.Del, u.Val, u.Height, u.Due, u.Initial, u.Balance)
	}
	m := i.move
	var raw []byte
	for _, limb := range m.Shares.Raw {
		raw = append(binary.BigEndian.AppendUint64(nil, limb), raw...)
	}
	raw = bytes.TrimLeft(raw, "\x00")
	head := spelt(nil, m.Del, m.Src, m.Dst, m.Height, m.Due, m.Initial)
	return append(append(head, byte(len(raw))), raw...)
}

// laid tells all that lies in a store of that book, rising.
func (b *book) laid() []api.Pair {
	var all []api.Pair
	if b.begun {
		all = append(all, api.Pair{Key: []byte{0x63}, Value: spelt(nil, b.height, b.next)})
	}
	for _, i := range b.items {
		first := byte(0x75)
		if i.kind == api.KeyMove {
			first = 0x72
		}
		kind := spelt(nil, uint64(i.kind))
		all = append(all,
			api.Pair{Key: spelt([]byte{first}, i.id), Value: i.value()},
			api.Pair{Key: spelt([]byte{0x71}, i.due, i.id), Value: kind},
			api.Pair{Key: spelt([]byte{0x65}, i.val, i.id), Value: kind})
	}
	for p, n := range b.counts() {
		all = append(all, api.Pair{Key: spelt([]byte{0x6B}, p.del, p.val), Value: spelt(nil, n)})
	}
	slices.SortFunc(all, func(x, y api.Pair) int { return bytes.Compare(x.Key, y.Key) })
	return all
}

// samePair tells whether two entries of a store are the same.
func samePair(x, y api.Pair) bool {
	return bytes.Equal(x.Key, y.Key) && bytes.Equal(x.Value, y.Value)
}

// sameMove tells whether two moves are the same, to the limb.
func sameMove(x, y api.Move) bool {
	shares := slices.Equal(x.Shares.Raw, y.Shares.Raw)
	x.Shares, y.Shares = api.Dec{}, api.Dec{}
	return shares && x.Del == y.Del && x.Src == y.Src && x.Dst == y.Dst && x.Height == y.Height && x.Due == y.Due && x.Initial == y.Initial
}

// wantLaid fails unless the store holds just what the book says.
func wantLaid(t *testing.T, what string, s *kv.Store, b *book) {
	t.Helper()
	if got := s.Dump(); !slices.EqualFunc(got, b.laid(), samePair) {
		t.Fatalf("P12.1, P12.3: %s: there lie %x, not %x", what, got, b.laid())
	}
}

// wantRecords fails unless each number's entry, and those of none, are told as the book has them.
func wantRecords(t *testing.T, what string, s *kv.Store, b *book) {
	t.Helper()
	ids := slices.Concat(numbers(), slices.Collect(maps.Keys(b.items)), []uint64{b.next, b.next + 1})
	for _, id := range ids {
		i := b.items[id]
		if u, ok := queue.Unbonding(s, id); ok != (i.kind == api.KeyUnbonding) || u != i.unbonding {
			t.Fatalf("P12.2: %s: Unbonding(%d): %v, %v, not %v", what, id, u, ok, i)
		}
		if m, ok := queue.Moving(s, id); ok != (i.kind == api.KeyMove) || !sameMove(m, i.move) {
			t.Fatalf("P12.2: %s: Moving(%d): %v, %v, not %v", what, id, m, ok, i)
		}
	}
}

// wantTold fails unless Due, From and Count tell what the book does.
func wantTold(t *testing.T, what string, s *kv.Store, b *book) {
	t.Helper()
	asked := numbers()
	for _, i := range b.items {
		asked = append(asked, i.due-1, i.due, i.val-1, i.val, i.val+1, i.del)
	}
	slices.Sort(asked)
	for _, n := range slices.Compact(asked) {
		if got, want := queue.Due(s, n), b.due(n); !slices.Equal(got, want) {
			t.Fatalf("P12.3: %s: Due(%d): %v, not %v", what, n, got, want)
		}
		if got, want := queue.From(s, n), b.from(n); !slices.Equal(got, want) {
			t.Fatalf("P12.3: %s: From(%d): %v, not %v", what, n, got, want)
		}
	}
	counts := b.counts()
	for _, i := range b.items {
		for _, p := range []pair{{i.del, i.val}, {i.val, i.del}, {i.del, i.val + 1}, {i.del + 1, i.val}, {i.del, i.move.Dst}} {
			if got := queue.Count(s, p.del, p.val); got != counts[p] {
				t.Fatalf("P12.3: %s: Count(%d, %d): %d, not %d", what, p.del, p.val, got, counts[p])
			}
		}
	}
}

// wantBook fails unless the store holds what the book says, nothing else, and tells it.
func wantBook(t *testing.T, what string, s *kv.Store, b *book) {
	t.Helper()
	wantLaid(t, what, s, b)
	wantRecords(t, what, s, b)
	wantTold(t, what, s, b)
	wantLaid(t, what+", and was asked", s, b)
}

// wantNumber fails unless a new entry has the number that the book gave it.
func wantNumber(t *testing.T, what string, got, want uint64) {
	t.Helper()
	if got != want {
		t.Fatalf("P12.1: %s: the number is %d, not %d", what, got, want)
	}
}

// drawn draws a number, some of them the same ones again and again.
func drawn(r *rand.Rand) uint64 {
	if r.Intn(3) > 0 {
		return numbers()[r.Intn(len(numbers()))]
	}
	return r.Uint64() >> r.Intn(64)
}

// drawnDec draws a Dec of up to 255 bytes, which needn't be normal.
func drawnDec(r *rand.Rand) api.Dec {
	raw := make(api.Nat, r.Intn(1+r.Intn(31)))
	for i := range raw {
		raw[i] = drawn(r)
	}
	return api.Dec{Raw: append(raw, make(api.Nat, r.Intn(3))...)}
}

func drawnUnbonding(r *rand.Rand) api.Unbonding {
	return api.Unbonding{Del: drawn(r), Val: drawn(r), Height: drawn(r), Due: drawn(r), Initial: drawn(r), Balance: drawn(r)}
}

func drawnMove(r *rand.Rand) api.Move {
	return api.Move{Del: drawn(r), Src: drawn(r), Dst: drawn(r), Height: drawn(r), Due: drawn(r), Initial: drawn(r), Shares: drawnDec(r)}
}

// picked draws an entry that is there, or one beside it: of another number, or of another kind.
func (b *book) picked(r *rand.Rand) api.Entry {
	ids := slices.Sorted(maps.Keys(b.items))
	if len(ids) == 0 || r.Intn(5) == 0 {
		return api.Entry{Id: drawn(r), Kind: r.Intn(20)}
	}
	e := b.items[ids[r.Intn(len(ids))]].entry()
	if r.Intn(4) == 0 {
		e.Kind = r.Intn(20)
	}
	return e
}

// doOne does a drawn call with the store and the book.
func doOne(t *testing.T, r *rand.Rand, s *kv.Store, b *book) {
	t.Helper()
	e := b.picked(r)
	got, want := true, true
	switch r.Intn(8) {
	case 0, 1:
		u := drawnUnbonding(r)
		wantNumber(t, "Unbond", queue.Unbond(s, u), b.unbond(u))
	case 2, 3:
		m := drawnMove(r)
		wantNumber(t, "Move", queue.Move(s, m), b.shift(m))
	case 4:
		n := drawn(r)
		got, want = queue.Less(s, e.Id, n), b.less(e.Id, n)
	case 5:
		d := drawnDec(r)
		got, want = queue.Fewer(s, e.Id, d), b.fewer(e.Id, d)
	default:
		got, want = queue.Drop(s, e), b.drop(e)
	}
	if got != want {
		t.Fatalf("P12.2, P12.3: a call for %v: %v, not %v", e, got, want)
	}
}

// chained tells a store with that chain record, and its book.
func chained(height, next uint64) (*kv.Store, *book) {
	s, b := kv.New(), newBook()
	b.begun, b.height, b.next = true, height, next
	s.Set([]byte{0x63}, spelt(nil, height, next))
	return s, b
}

// started tells a store and its book with some entries of both kinds.
func started(t *testing.T) (*kv.Store, *book) {
	t.Helper()
	s, b := chained(9, 100)
	r := rand.New(rand.NewSource(120))
	for range 80 {
		doOne(t, r, s, b)
	}
	return s, b
}
