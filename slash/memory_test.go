package slash_test

import (
	"math/rand"
	"testing"

	"glean/api"
	"glean/slash"
)

// spoil writes over each list of limbs of the payments, the room behind it included, and fails if that shows in another one of them.
func spoil(t *testing.T, paid []api.Paid) {
	t.Helper()
	var lists []api.Nat
	for _, p := range paid {
		for _, d := range []api.Dec{p.Q, p.Left, p.Shares} {
			lists = append(lists, d.Raw[:cap(d.Raw)])
		}
	}
	for i, list := range lists {
		for j := range list {
			list[j] = uint64(i) + 1000
		}
	}
	for i, list := range lists {
		for _, limb := range list {
			if limb != uint64(i)+1000 {
				t.Fatal("two lists of one answer share memory")
			}
		}
	}
}

// DOC.md, what holds everywhere, 3: P16.1 answers new memory, and what is answered may be written over.
func TestAnswersAreNew(t *testing.T) {
	r := rand.New(rand.NewSource(221))
	paid := 0
	for range 100 {
		s, b := drawnRun(r)
		b.params = []api.Params{{Max: 3, Unbond: 50, Entries: 99, Age: 9, Double: 1000, Down: 1000}}
		b.lay(s)
		for range 100 {
			step(t, r, s, b)
			val := drawnCulprit(r, b)
			told, _, _ := slash.Fault(s, down, val, b.stand().Height)
			b.fault(down, val, b.stand().Height)
			spoil(t, told)
			paid += len(told)
			wantBook(t, "behind a spoilt answer", s, b)
			doUnjail(t, s, b, val)
		}
	}
	if paid < 50 {
		t.Errorf("only %d were paid", paid)
	}
}

// DOC.md, what holds everywhere, 9: what a call answers hangs on the store alone: the same is answered of a copy, at once or later.
func TestAnsweredAlike(t *testing.T) {
	r := rand.New(rand.NewSource(222))
	for range 30 {
		s, b := drawnRun(r)
		for range 60 {
			step(t, r, s, b)
		}
		for range 10 {
			kind, val, height := 1+r.Intn(2), drawnCulprit(r, b), b.stand().Height
			first, second := s.Copy(), s.Copy()
			paid, n, e := slash.Fault(first, kind, val, height)
			again, m, f := slash.Fault(second, kind, val, height)
			wantErr(t, "of a copy", f, e)
			wantCoins(t, "of a copy", m, n)
			wantPaids(t, "of a copy", again, paid)
			wantBook(t, "beside copies", s, b)
		}
	}
}
