package queue_test

import (
	"math/rand"
	"slices"
	"testing"

	"glean/api"
	"glean/keys"
	"glean/kv"
	"glean/queue"
)

// P12.1 to P12.3: the chapter's examples.
func TestExamples(t *testing.T) {
	s, _ := chained(3, 7)
	wantNumber(t, "Unbond", queue.Unbond(s, api.Unbonding{Del: 20, Val: 16, Due: 5}), 7)
	wantNumber(t, "Move", queue.Move(s, api.Move{Del: 20, Src: 16, Dst: 17, Due: 4}), 8)
	u, m := api.Entry{Id: 7, Kind: api.KeyUnbonding}, api.Entry{Id: 8, Kind: api.KeyMove}
	if got := queue.Due(s, 5); !slices.Equal(got, []api.Entry{m, u}) {
		t.Errorf("P12.3: Due(5): %v", got)
	}
	if got := queue.Due(s, 4); !slices.Equal(got, []api.Entry{m}) {
		t.Errorf("P12.3: Due(4): %v", got)
	}
	if got := queue.From(s, 16); !slices.Equal(got, []api.Entry{u, m}) {
		t.Errorf("P12.3: From(16): %v", got)
	}
	if got := queue.Count(s, 20, 16); got != 2 {
		t.Errorf("P12.3: Count(20, 16): %d", got)
	}
	if queue.Drop(s, api.Entry{Id: 8, Kind: api.KeyUnbonding}) {
		t.Error("P12.3: Drop of the other kind")
	}
}

// P12.1: without a chain record the first number is 0, and the record {0, 1} is laid.
func TestWithoutAChain(t *testing.T) {
	s, b := kv.New(), newBook()
	wantBook(t, "an empty store", s, b)
	wantNumber(t, "Unbond", queue.Unbond(s, api.Unbonding{}), b.unbond(api.Unbonding{}))
	wantBook(t, "one unbonding", s, b)
	s, b = kv.New(), newBook()
	wantNumber(t, "Move", queue.Move(s, api.Move{}), b.shift(api.Move{}))
	wantBook(t, "one move", s, b)
}

// P12.1: the number is the chain's Next, which is one greater behind that, modulo 2^64; the chain's Height stays.
func TestNumbers(t *testing.T) {
	for _, height := range numbers() {
		for _, next := range numbers() {
			s, b := chained(height, next)
			wantNumber(t, "Unbond", queue.Unbond(s, api.Unbonding{Del: 1}), b.unbond(api.Unbonding{Del: 1}))
			wantNumber(t, "Move", queue.Move(s, api.Move{Del: 1}), b.shift(api.Move{Del: 1}))
			wantBook(t, "two entries", s, b)
		}
	}
}

// P12.1: an entry's record, and all that leads to it, lie under keys of their own, whatever numbers it has.
func TestOneEntry(t *testing.T) {
	for i, n := range numbers() {
		for j, m := range numbers() {
			s, b := chained(1, uint64(i*j))
			u := api.Unbonding{Del: n, Val: m, Height: n + 1, Due: m ^ n, Initial: m + 2, Balance: n + 3}
			wantNumber(t, "Unbond", queue.Unbond(s, u), b.unbond(u))
			wantBook(t, "one unbonding", s, b)
			s, b = chained(1, uint64(i*j))
			v := api.Move{Del: n, Src: m, Dst: m + 1, Height: n + 1, Due: m ^ n, Initial: m + 2, Shares: api.Dec{Raw: api.Nat{n, m}}}
			wantNumber(t, "Move", queue.Move(s, v), b.shift(v))
			wantBook(t, "one move", s, b)
		}
	}
}

// P12.1, P12.3: unbondings and moves of one pair are counted together; a move isn't counted for whom it goes to, nor does it stand in From of it.
func TestBothKindsOfOnePair(t *testing.T) {
	s, b := kv.New(), newBook()
	for i := range uint64(5) {
		u, m := api.Unbonding{Del: 20, Val: 16, Due: 9 - i}, api.Move{Del: 20, Src: 16, Dst: 17, Due: 7}
		wantNumber(t, "Unbond", queue.Unbond(s, u), b.unbond(u))
		wantNumber(t, "Move", queue.Move(s, m), b.shift(m))
		wantBook(t, "one more of each", s, b)
		if got := queue.Count(s, 20, 16); got != 2*i+2 {
			t.Errorf("P12.3: Count: %d", got)
		}
	}
	if got := queue.Count(s, 20, 17); got != 0 || len(queue.From(s, 17)) != 0 {
		t.Errorf("P12.3: whom the moves go to: %d, %v", got, queue.From(s, 17))
	}
}

// P12.3: Due has those whose time is the height, too, and goes up to the greatest height; those of one time stand by number.
func TestDueAtTheEdge(t *testing.T) {
	for _, due := range numbers() {
		s, b := kv.New(), newBook()
		for _, at := range []uint64{due + 1, due, due, due - 1, due} {
			u, m := api.Unbonding{Del: 1, Val: 2, Due: at}, api.Move{Del: 3, Src: 2, Due: at}
			wantNumber(t, "Unbond", queue.Unbond(s, u), b.unbond(u))
			wantNumber(t, "Move", queue.Move(s, m), b.shift(m))
		}
		wantBook(t, "about one time", s, b)
	}
}

// P12.3: a store with more entries than a page has tells them all.
func TestMany(t *testing.T) {
	s, b := kv.New(), newBook()
	for i := range uint64(200) {
		u, m := api.Unbonding{Del: i % 3, Val: 16, Due: i * 77 % 50}, api.Move{Del: i % 2, Src: 16, Due: i * 31 % 50}
		wantNumber(t, "Unbond", queue.Unbond(s, u), b.unbond(u))
		wantNumber(t, "Move", queue.Move(s, m), b.shift(m))
	}
	wantBook(t, "many", s, b)
	if got := len(queue.Due(s, 50)); got != 400 {
		t.Errorf("P12.3: %d are due", got)
	}
}

// P12.2: Less sets a Balance, Fewer a move's Shares, and nothing else; of the other kind, and of none, they answer false, and nothing has changed.
func TestLessAndFewer(t *testing.T) {
	s, b := kv.New(), newBook()
	u := api.Unbonding{Del: 20, Val: 16, Height: 3, Due: 5, Initial: 9, Balance: 9}
	m := api.Move{Del: 21, Src: 17, Dst: 18, Height: 4, Due: 6, Initial: 8, Shares: api.Dec{Raw: api.Nat{7}}}
	one, two := queue.Unbond(s, u), queue.Move(s, m)
	b.unbond(u)
	b.shift(m)
	for _, n := range numbers() {
		d := api.Dec{Raw: api.Nat{n, n, 0}}
		if !queue.Less(s, one, n) || !queue.Fewer(s, two, d) || !b.less(one, n) || !b.fewer(two, d) {
			t.Fatalf("P12.2: %d is refused", n)
		}
		wantBook(t, "another balance, other shares", s, b)
		for _, none := range []uint64{2, 3, top, 1 << 63} {
			if queue.Less(s, two, n) || queue.Fewer(s, one, d) || queue.Less(s, none, n) || queue.Fewer(s, none, d) {
				t.Fatalf("P12.2: of the other kind, or of %d", none)
			}
		}
		wantBook(t, "what isn't there was changed", s, b)
	}
	if !queue.Fewer(s, two, api.Dec{}) || !b.fewer(two, api.Dec{}) {
		t.Error("P12.2: no shares are refused")
	}
	wantBook(t, "no shares", s, b)
}

// P12.3: Drop takes away the entry of that number and kind, once; of any other number or kind nothing has changed.
func TestDrop(t *testing.T) {
	s, b := started(t)
	for kind := -1; kind < 20; kind++ {
		for _, id := range append(numbers(), b.next, b.next-1) {
			if e := (api.Entry{Id: id, Kind: kind}); b.items[id].kind != kind && queue.Drop(s, e) {
				t.Errorf("P12.3: Drop(%v)", e)
			}
		}
	}
	for _, kind := range []int{-1 << 63, api.KeyUnbonding + 1<<8, api.KeyMove + 1<<32, 1<<63 - 1} {
		for id := range b.items {
			if queue.Drop(s, api.Entry{Id: id, Kind: kind}) {
				t.Errorf("P12.3: Drop of kind %d", kind)
			}
		}
	}
	wantBook(t, "nothing was dropped", s, b)
	for _, e := range b.due(top) {
		if !queue.Drop(s, e) || !b.drop(e) || queue.Drop(s, e) {
			t.Errorf("P12.3: Drop(%v)", e)
		}
		wantBook(t, "behind a Drop", s, b)
	}
}

// P12.3: of a pair's entries one fewer is counted behind each Drop; of none nothing lies there.
func TestCountDown(t *testing.T) {
	s, b := kv.New(), newBook()
	for range 6 {
		u := api.Unbonding{Del: 20, Val: 16}
		queue.Unbond(s, u)
		b.unbond(u)
	}
	for id := range uint64(6) {
		e := api.Entry{Id: id, Kind: api.KeyUnbonding}
		if !queue.Drop(s, e) || !b.drop(e) || queue.Count(s, 20, 16) != 5-id {
			t.Errorf("P12.3: %d left behind %d", queue.Count(s, 20, 16), id)
		}
		wantBook(t, "counted down", s, b)
	}
}

// P12.4: when all are dropped, only the chain record lies there, and no number comes again.
func TestAllDropped(t *testing.T) {
	r := rand.New(rand.NewSource(124))
	s, b := kv.New(), newBook()
	seen := map[uint64]bool{}
	for range 30 {
		for range r.Intn(20) {
			u, m := drawnUnbonding(r), drawnMove(r)
			for _, id := range []uint64{queue.Unbond(s, u), queue.Move(s, m)} {
				if seen[id] {
					t.Fatalf("P12.4: %d comes twice", id)
				}
				seen[id] = true
			}
			b.unbond(u)
			b.shift(m)
		}
		wantBook(t, "entries", s, b)
		for _, i := range r.Perm(len(b.items)) {
			e := b.items[b.next-1-uint64(i)].entry()
			if !queue.Drop(s, e) {
				t.Fatalf("P12.3: Drop(%v)", e)
			}
		}
		clear(b.items)
		wantBook(t, "all dropped", s, b)
	}
}

// others tells a store with records of every kind that isn't this layer's, and how many.
func others() (*kv.Store, int) {
	s, count := kv.New(), 0
	for kind := api.KeyParams; kind <= api.KeyHolds; kind++ {
		if kind == api.KeyChain || kind >= api.KeyUnbonding && kind <= api.KeySource {
			continue
		}
		for _, a := range numbers() {
			for _, b := range numbers() {
				if k, e := keys.Make(api.Key{Kind: kind, A: a, B: b}); e == api.OK && !s.Has(k) {
					s.Set(k, []byte{1})
					count++
				}
			}
		}
	}
	return s, count
}

// P12.1 to P12.3: what else lies in a store is neither told nor touched.
func TestOtherRecordsBeside(t *testing.T) {
	s, count := others()
	b := newBook()
	r := rand.New(rand.NewSource(125))
	for range 60 {
		doOne(t, r, s, b)
		wantRecords(t, "beside other records", s, b)
		wantTold(t, "beside other records", s, b)
		if got, want := len(s.Dump()), count+len(b.laid()); got != want {
			t.Fatalf("P12.1: %d lie there, not %d", got, want)
		}
	}
	for _, e := range b.due(top) {
		queue.Drop(s, e)
	}
	left, _ := others()
	s.Delete([]byte{0x63})
	if !slices.EqualFunc(s.Dump(), left.Dump(), samePair) {
		t.Error("P12.4: other records were touched")
	}
}
