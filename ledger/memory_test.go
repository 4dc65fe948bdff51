package ledger_test

import (
	"math/rand"
	"slices"
	"sync"
	"testing"

	"glean/api"
	"glean/ledger"
)

// roomy gives limbs room behind their end, with something in it, as a caller's longer list has.
func roomy(n api.Nat) api.Nat { return append(slices.Clone(n), 11, 12, 13)[:len(n)] }

// held tells all that hangs on a list, the room behind its end included.
func held(n api.Nat) api.Nat { return slices.Clone(n[:cap(n)]) }

// spoil writes over a list, and over the room behind its end.
func spoil(n api.Nat) {
	n = n[:cap(n)]
	for i := range n {
		n[i] = 77
	}
}

// spoilt writes over both parts of a Rat, and fails if they share memory.
func spoilt(t *testing.T, a api.Rat) {
	t.Helper()
	den := slices.Clone(a.Den)
	spoil(a.Num)
	if !slices.Equal(a.Den, den) {
		t.Fatal("DOC.md, 3: the parts of a fraction share memory")
	}
	spoil(a.Den)
}

// DOC.md, what holds everywhere, 3: what is handed in is neither changed nor kept.
func TestArguments(t *testing.T) {
	for seed := range int64(40) {
		r := rand.New(rand.NewSource(seed))
		l, like := ledger.New(), ledger.New()
		for range 40 {
			d := drawn(r)
			d.tell(like)
			d.dec.Raw, d.shares.Raw = roomy(d.dec.Raw), roomy(d.shares.Raw)
			one, two := held(d.dec.Raw), held(d.shares.Raw)
			d.tell(l)
			if !slices.Equal(held(d.dec.Raw), one) || !slices.Equal(held(d.shares.Raw), two) {
				t.Fatalf("DOC.md, 3: %v changed its argument", d)
			}
			spoil(d.dec.Raw)
			spoil(d.shares.Raw)
		}
		wantAlike(t, "DOC.md, 3: an argument was kept", l, like)
	}
}

// DOC.md, what holds everywhere, 3: Fits changes nothing that is handed in.
func TestArgumentsOfFits(t *testing.T) {
	r := rand.New(rand.NewSource(7))
	for range 500 {
		e := api.Rat{Num: roomy(drawnDec(r).Raw), Den: roomy(drawnDec(r).Raw)}
		q := api.Dec{Raw: roomy(drawnDec(r).Raw)}
		num, den, raw := held(e.Num), held(e.Den), held(q.Raw)
		ledger.Fits(e, uint64(r.Intn(3)), q, r.Intn(9), r.Intn(9))
		if !slices.Equal(held(e.Num), num) || !slices.Equal(held(e.Den), den) || !slices.Equal(held(q.Raw), raw) {
			t.Fatal("DOC.md, 3: Fits changed its argument")
		}
	}
}

// wantAlike fails unless two ledgers tell the same of everybody.
func wantAlike(t *testing.T, what string, l, like *ledger.Ledger) {
	t.Helper()
	for val := range uint64(people) {
		for del := range uint64(people) {
			if !sameRat(l.Stake(val, del), like.Stake(val, del)) || !sameRat(l.Owed(val, del), like.Owed(val, del)) {
				t.Fatalf("%s: %d with %d", what, del, val)
			}
		}
		if !sameRat(l.Stakes(val), like.Stakes(val)) || !sameRat(l.Owes(val), like.Owes(val)) {
			t.Fatalf("%s: all of %d", what, val)
		}
	}
}

// DOC.md, what holds everywhere, 3: what is answered is new memory; to write over it changes no ledger.
func TestAnswers(t *testing.T) {
	for seed := range int64(40) {
		l, like := grown(seed), grown(seed)
		for val := range uint64(people + 1) {
			for del := range uint64(people) {
				spoilt(t, l.Stake(val, del))
				spoilt(t, l.Owed(val, del))
			}
			spoilt(t, l.Stakes(val))
			spoilt(t, l.Owes(val))
		}
		wantAlike(t, "DOC.md, 3: an answer, spoilt, shows", l, like)
		for val := range uint64(people) {
			e, _, _ := l.Settle(val, val)
			spoilt(t, e)
			e, _, _ = l.Settle(val, people)
			spoilt(t, e)
			like.Settle(val, val)
			like.Settle(val, people)
		}
		wantAlike(t, "DOC.md, 3: what Settle told, spoilt, shows", l, like)
	}
}

// P30.13: ledgers don't touch one another, whatever order they are told and asked in.
func TestApart(t *testing.T) {
	r := rand.New(rand.NewSource(8))
	var books [3]deeds
	var ledgers [3]*ledger.Ledger
	for i := range ledgers {
		ledgers[i] = ledger.New()
	}
	for range 120 {
		i := r.Intn(len(books))
		d := drawn(r)
		d.tell(ledgers[i])
		books[i] = append(books[i], d)
	}
	for i, all := range books {
		wantBook(t, all, ledgers[i])
	}
}

// Several goroutines may ask one ledger at once, and tell each one of its own.
func TestAtTheSameTime(t *testing.T) {
	l, like := grown(3), grown(3)
	var all sync.WaitGroup
	for seed := range int64(6) {
		all.Go(func() {
			for val := range uint64(people) {
				for del := range uint64(people) {
					if !sameRat(l.Stake(val, del), like.Stake(val, del)) || !sameRat(l.Owed(val, del), like.Owed(val, del)) {
						t.Errorf("asked at once: %d with %d", del, val)
					}
				}
				if !sameRat(l.Stakes(val), like.Stakes(val)) || !sameRat(l.Owes(val), like.Owes(val)) {
					t.Errorf("asked at once: all of %d", val)
				}
			}
			mine := grown(seed)
			mine.Give(1, api.Dec{Raw: api.Nat{5}}, 9)
			if _, _, cuts := mine.Settle(1, 99); cuts != 0 {
				t.Error("told at once: cuts of none")
			}
		})
	}
	all.Wait()
}
