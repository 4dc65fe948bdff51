package queue_test

import (
	"math/rand"
	"slices"
	"sync"
	"testing"

	"glean/api"
	"glean/kv"
	"glean/queue"
)

// P12.1 to P12.3: whatever is done, there lies just what was begun and not dropped, and it is told.
func TestWhateverIsDone(t *testing.T) {
	r := rand.New(rand.NewSource(121))
	for range 10 {
		s, b := kv.New(), newBook()
		for range 80 {
			doOne(t, r, s, b)
			wantBook(t, "behind a call", s, b)
		}
	}
}

// P12.4: every entry stands in Due of its time, in From of its validator and in one Count, until it is dropped; then in none.
func TestWhereItStands(t *testing.T) {
	s, b := started(t)
	for _, i := range b.chosen(func(item) bool { return true }) {
		e := i.entry()
		counted := queue.Count(s, i.del, i.val)
		if !slices.Contains(queue.Due(s, i.due), e) || !slices.Contains(queue.From(s, i.val), e) || counted == 0 {
			t.Fatalf("P12.4: %v doesn't stand everywhere", e)
		}
		if i.due > 0 && slices.Contains(queue.Due(s, i.due-1), e) {
			t.Fatalf("P12.4: %v stands ahead of its time", e)
		}
		queue.Drop(s, e)
		if slices.Contains(queue.Due(s, top), e) || slices.Contains(queue.From(s, i.val), e) || queue.Count(s, i.del, i.val) != counted-1 {
			t.Fatalf("P12.4: %v still stands somewhere", e)
		}
	}
	if got := s.Dump(); len(got) != 1 || !slices.Equal(got[0].Key, []byte{0x63}) {
		t.Errorf("P12.4: all dropped: %v", got)
	}
}

// P12.1 to P12.3: what is done within a journal is taken back with it, numbers too, and nothing else.
func TestWithinAJournal(t *testing.T) {
	r := rand.New(rand.NewSource(122))
	s, b := started(t)
	for range 40 {
		s.Begin()
		within := b.copied()
		for range 8 {
			doOne(t, r, s, within)
		}
		wantBook(t, "within a journal", s, within)
		if r.Intn(2) == 0 {
			s.Commit()
			b = within
		} else {
			s.Rollback()
		}
		wantBook(t, "behind a journal", s, b)
	}
}

// P12.1 to P12.3: two stores don't touch one another, and one may be asked by several at once.
func TestStoresApart(t *testing.T) {
	first, b := started(t)
	second, now := first.Copy(), b.copied()
	r := rand.New(rand.NewSource(123))
	for range 100 {
		doOne(t, r, second, now)
	}
	wantBook(t, "beside another store", first, b)
	wantBook(t, "a copy", second, now)
	var all sync.WaitGroup
	failed := make([]bool, 8)
	for i := range failed {
		all.Go(func() {
			for _, n := range numbers() {
				failed[i] = failed[i] || !slices.Equal(queue.Due(first, n), b.due(n)) || !slices.Equal(queue.From(first, n), b.from(n))
			}
		})
	}
	all.Wait()
	if slices.Contains(failed, true) {
		t.Errorf("P12.3: asked by several at once: %v", failed)
	}
}

// spoil writes over a list of entries, and over the room behind it.
func spoil(list []api.Entry) {
	list = list[:cap(list)]
	for i := range list {
		list[i] = api.Entry{Id: 77, Kind: 77}
	}
}

// DOC.md, what holds everywhere, 3: P12.2 and P12.3 answer new memory.
func TestToldInNewMemory(t *testing.T) {
	s, b := started(t)
	for _, n := range numbers() {
		spoil(queue.Due(s, n))
		spoil(queue.From(s, n))
	}
	for id := range b.items {
		m, _ := queue.Moving(s, id)
		raw := m.Shares.Raw[:cap(m.Shares.Raw)]
		for i := range raw {
			raw[i] = 77
		}
	}
	wantBook(t, "behind spoilt answers", s, b)
}

// DOC.md, what holds everywhere, 3 and 10: P12.1 and P12.2 neither change nor keep what they are handed, which needn't be normal.
func TestHandedIn(t *testing.T) {
	s, b := kv.New(), newBook()
	raw := api.Nat{5, 6, 0, 0, 9, 9}
	whole := slices.Clone(raw)
	m := api.Move{Del: 1, Src: 2, Dst: 3, Shares: api.Dec{Raw: raw[:4]}}
	id := queue.Move(s, m)
	b.shift(m)
	if !slices.Equal(raw, whole) {
		t.Error("P12.1: what was handed in was changed")
	}
	raw[0] = 77
	wantBook(t, "what was handed in is another one now", s, b)
	shares := api.Dec{Raw: raw[1:3]}
	queue.Fewer(s, id, shares)
	b.fewer(id, shares)
	raw[1], raw[2], raw[3] = 7, 8, 9
	wantBook(t, "behind Fewer", s, b)
}
