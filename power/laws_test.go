package power_test

import (
	"math/rand"
	"slices"
	"sync"
	"testing"

	"glean/kv"
	"glean/power"
)

// P11.1, P11.2: whatever is done, there lie just the keys that were laid and not taken away, and they are told.
func TestWhateverIsDone(t *testing.T) {
	r := rand.New(rand.NewSource(111))
	for range 20 {
		s, b := kv.New(), newBook()
		for range 150 {
			doOne(r, s, b)
			wantBook(t, "behind a call", s, b)
		}
	}
}

// P11.4: Top(n) is the beginning of Top(m), n at most m.
func TestBeginnings(t *testing.T) {
	s, b := begun()
	all := power.Top(s, len(b.seats))
	if len(all) != len(b.seats) || len(all) < 10 {
		t.Fatalf("P11.4: %d of %d are told", len(all), len(b.seats))
	}
	for n := range len(all) + 3 {
		if got := power.Top(s, n); !slices.Equal(got, all[:min(n, len(all))]) {
			t.Errorf("P11.4: Top(%d): %v isn't the beginning of %v", n, got, all)
		}
	}
}

// P11.4: of two validators that were put once each, in whatever order, the one with more tokens stands ahead; of as many, the lesser one.
func TestWhoStandsAhead(t *testing.T) {
	for _, x := range numbers() {
		for _, y := range numbers() {
			for _, first := range []seat{{16, x}, {17, x}} {
				second := seat{33 - first.v, y}
				s := kv.New()
				power.Put(s, first.v, first.tokens)
				power.Put(s, second.v, second.tokens)
				want := []uint64{first.v, second.v}
				if y > x || y == x && second.v < first.v {
					slices.Reverse(want)
				}
				if got := power.Top(s, 2); !slices.Equal(got, want) {
					t.Fatalf("P11.4: %v and %v: %v", first, second, got)
				}
			}
		}
	}
}

// P11.4: where each validator was put once, whoever is told earlier has more tokens, or as many and a lesser id.
func TestTopFalls(t *testing.T) {
	r := rand.New(rand.NewSource(114))
	for range 50 {
		s, tokens := kv.New(), map[uint64]uint64{}
		for range 100 {
			v := drawn(r)
			if _, there := tokens[v]; !there {
				tokens[v] = drawn(r)
				power.Put(s, v, tokens[v])
			}
		}
		all := power.Top(s, 1000)
		if len(all) != len(tokens) {
			t.Fatalf("P11.4: %d of %d are told", len(all), len(tokens))
		}
		for i, v := range all[1:] {
			if u := all[i]; tokens[u] < tokens[v] || tokens[u] == tokens[v] && u >= v {
				t.Fatalf("P11.4: %d with %d stands ahead of %d with %d", u, tokens[u], v, tokens[v])
			}
		}
	}
}

// P11.1, P11.2: what is done within a journal is taken back with it, and nothing else.
func TestWithinAJournal(t *testing.T) {
	r := rand.New(rand.NewSource(112))
	s, b := begun()
	for range 60 {
		s.Begin()
		within := b.copied()
		for range 10 {
			doOne(r, s, within)
		}
		wantBook(t, "within a journal", s, within)
		if r.Intn(2) == 0 {
			s.Commit()
			b = within
		} else {
			s.Rollback()
		}
		wantBook(t, "behind a journal", s, b)
	}
}

// P11.1, P11.2: two stores don't touch one another, and one may be asked by several at once.
func TestStoresApart(t *testing.T) {
	first, b := begun()
	second, now := first.Copy(), b.copied()
	r := rand.New(rand.NewSource(115))
	for range 200 {
		doOne(r, second, now)
	}
	wantBook(t, "beside another store", first, b)
	wantBook(t, "a copy", second, now)
	var all sync.WaitGroup
	bonded := power.Bonded(first)
	failed := make([]bool, 8)
	for i := range failed {
		all.Go(func() {
			for n := range 50 {
				failed[i] = failed[i] || !slices.Equal(power.Top(first, n), b.top(n)) || !slices.Equal(power.Bonded(first), bonded)
			}
		})
	}
	all.Wait()
	if slices.Contains(failed, true) {
		t.Errorf("asked by several at once: %v", failed)
	}
}

// spoil writes over a list, and over the room behind it.
func spoil(list []uint64) {
	list = list[:cap(list)]
	for i := range list {
		list[i] = 77
	}
}

// DOC.md, what holds everywhere, 3: P11.1 and P11.2 answer new memory.
func TestToldInNewMemory(t *testing.T) {
	s, b := begun()
	for n := range len(b.seats) + 2 {
		spoil(power.Top(s, n))
		spoil(power.Bonded(s))
	}
	wantBook(t, "behind spoilt answers", s, b)
}

// DOC.md, what holds everywhere, 3: P11.3 changes no argument, and answers lists that share memory neither with one nor with another.
func TestTurnsMemory(t *testing.T) {
	r := rand.New(rand.NewSource(116))
	for range 500 {
		was, now := append(drawnList(r), 1, 2, 3), append(drawnList(r), 4, 5, 6)
		was0, now0 := slices.Clone(was), slices.Clone(now)
		short, brief := was[:len(was)-3], now[:len(now)-3]
		went, came := power.Turns(short, brief)
		kept := slices.Clone(came)
		spoil(went)
		if !slices.Equal(came, kept) {
			t.Fatal("P11.3: the two answers share memory")
		}
		spoil(came)
		if !slices.Equal(was, was0) || !slices.Equal(now, now0) {
			t.Fatal("P11.3: an argument was changed")
		}
		wantTurns(t, short, brief, without(short, brief), without(brief, short))
		wantTurns(t, short, short, nil, nil)
	}
}
