package power_test

import (
	"slices"
	"testing"

	"glean/api"
	"glean/keys"
	"glean/kv"
	"glean/power"
)

// P11.1: of an empty store nobody is told, however many are asked for.
func TestNobody(t *testing.T) {
	wantBook(t, "an empty store", kv.New(), newBook())
}

// P11.1, P11.3: the chapter's examples.
func TestExamples(t *testing.T) {
	s := kv.New()
	power.Put(s, 16, 5)
	power.Put(s, 17, 9)
	power.Put(s, 18, 5)
	if got := power.Top(s, 2); !slices.Equal(got, []uint64{17, 16}) {
		t.Errorf("P11.1: Top(2): %v", got)
	}
	power.Drop(s, 17, 9)
	if got := power.Top(s, 9); !slices.Equal(got, []uint64{16, 18}) {
		t.Errorf("P11.1: Top(9) behind Drop: %v", got)
	}
	wantTurns(t, []uint64{1, 2}, []uint64{2, 3}, []uint64{1}, []uint64{3})
}

// P11.1: each validator with each number of tokens has a key of its own, with a value without bytes; Drop takes that one away, and no other one.
func TestPutAndDrop(t *testing.T) {
	s, b := kv.New(), newBook()
	for _, v := range numbers() {
		for _, tokens := range numbers() {
			power.Put(s, v, tokens)
			b.seats[seat{v, tokens}] = true
		}
		wantBook(t, "behind Puts", s, b)
	}
	for _, v := range numbers() {
		for i, tokens := range numbers() {
			power.Drop(s, v, tokens)
			delete(b.seats, seat{v, tokens})
			if i%6 == 0 {
				wantBook(t, "behind Drops", s, b)
			}
		}
	}
	wantBook(t, "behind all Drops", s, newBook())
}

// P11.1: one put, and dropped, in a store that holds nothing else.
func TestOneSeat(t *testing.T) {
	for _, v := range numbers() {
		for _, tokens := range numbers() {
			s, b := kv.New(), newBook()
			power.Put(s, v, tokens)
			b.seats[seat{v, tokens}] = true
			wantBook(t, "one", s, b)
			power.Drop(s, v, tokens)
			wantBook(t, "none", s, newBook())
		}
	}
}

// P11.1: what is put twice lies there once; what isn't there, and is dropped, changes nothing.
func TestTwiceAndNever(t *testing.T) {
	s, b := begun()
	for p := range b.seats {
		power.Put(s, p.v, p.tokens)
	}
	wantBook(t, "put twice", s, b)
	for _, v := range numbers() {
		for _, tokens := range numbers() {
			if !b.seats[seat{v, tokens}] {
				power.Drop(s, v, tokens)
			}
		}
	}
	wantBook(t, "dropped, and never put", s, b)
}

// P11.1: a validator that was put with two numbers of tokens is told for each of them.
func TestTwoNumbersOfOne(t *testing.T) {
	s := kv.New()
	power.Put(s, 16, 5)
	power.Put(s, 17, 6)
	power.Put(s, 16, 7)
	if got := power.Top(s, 9); !slices.Equal(got, []uint64{16, 17, 16}) {
		t.Errorf("P11.1: two keys of one validator: %v", got)
	}
	power.Drop(s, 16, 7)
	if got := power.Top(s, 9); !slices.Equal(got, []uint64{17, 16}) {
		t.Errorf("P11.1: one of them dropped: %v", got)
	}
}

// P11.1: Top leaves off when it has enough: by how many are asked for its operations are bound, not by how many there are.
func TestOperations(t *testing.T) {
	s := kv.New()
	for v := range uint64(500) {
		power.Put(s, v, v)
	}
	for n := -2; n < 520; n++ {
		was := s.Ops()
		got := power.Top(s, n)
		if took := s.Ops() - was; len(got) != min(max(n, 0), 500) || took > max(n, 0)+2 {
			t.Fatalf("P11.1: Top(%d): %d validators, %d operations", n, len(got), took)
		}
	}
}

// others tells a store with records of every other kind in it, and how many.
func others() (*kv.Store, int) {
	s, count := kv.New(), 0
	for kind := api.KeyParams; kind <= api.KeyCount; kind++ {
		for _, a := range numbers() {
			for _, b := range numbers() {
				k, e := keys.Make(api.Key{Kind: kind, A: a, B: b})
				if e == api.OK && kind != api.KeyPower && kind != api.KeyBonded {
					s.Set(k, []byte{1})
					count++
				}
			}
		}
	}
	return s, count
}

// P11.1, P11.2: what else lies in a store is neither told nor touched.
func TestOtherRecordsBeside(t *testing.T) {
	s, count := others()
	b := newBook()
	wantTold(t, "other records alone", s, b)
	for i, v := range numbers() {
		power.Put(s, v, top-v)
		b.seats[seat{v, top - v}] = true
		power.Bond(s, v, i%2 == 0)
		b.bond(v, i%2 == 0)
	}
	wantTold(t, "other records beside", s, b)
	if got, want := len(s.Dump()), count+len(b.laid()); got != want {
		t.Errorf("P11.1: %d entries, not %d", got, want)
	}
	for _, v := range numbers() {
		power.Drop(s, v, top-v)
		power.Bond(s, v, false)
	}
	wantTold(t, "other records left", s, newBook())
	if got := len(s.Dump()); got != count {
		t.Errorf("P11.1: %d other entries, not %d", got, count)
	}
}
