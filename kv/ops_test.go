package kv_test

import (
	"bytes"
	"sync"
	"testing"

	"glean/api"
	"glean/kv"
)

// wantOps fails unless so many operations were done.
func wantOps(t *testing.T, what string, s *kv.Store, want int) {
	t.Helper()
	if s.Ops() != want {
		t.Fatalf("P6.4: %s: Ops %d, not %d", what, s.Ops(), want)
	}
}

// P6.4: each Get, Has, Set and Delete counts 1, whatever it answers, within a journal, too.
func TestEachCounts(t *testing.T) {
	for _, depth := range []int{0, 1, api.MaxDepth} {
		s := kv.New()
		begin(t, s, depth)
		wantOps(t, "a new store", s, 0)
		for i, do := range []func(){
			func() { s.Get([]byte("a")) },
			func() { s.Has([]byte("a")) },
			func() { s.Delete([]byte("a")) },
			func() { s.Set([]byte("a"), []byte("1")) },
			func() { s.Set([]byte("a"), []byte("1")) },
			func() { s.Get([]byte("a")) },
			func() { s.Has([]byte("a")) },
			func() { s.Delete([]byte("a")) },
			func() { s.Get(nil) },
			func() { s.Has(make([]byte, 65)) },
			func() { s.Delete(nil) },
			func() { s.Set(nil, nil) },
			func() { s.Set(make([]byte, 65), nil) },
			func() { s.Set([]byte("a"), make([]byte, 4097)) },
		} {
			do()
			wantOps(t, "one by one", s, i+1)
		}
	}
}

// P6.4: nothing else counts, refused or not; Rollback doesn't take the count back.
func TestNothingElseCounts(t *testing.T) {
	s := filled(100)
	for range api.MaxDepth + 2 {
		s.Begin()
	}
	s.Depth()
	s.Ops()
	s.Dump()
	s.Copy()
	wantOps(t, "what doesn't count", s, 100)
	for i := range 50 {
		s.Delete(numbered(i))
	}
	for i := range 50 {
		s.Set(numbered(i*2), []byte("x"))
	}
	s.Commit()
	wantOps(t, "behind Commit", s, 200)
	for range api.MaxDepth + 2 {
		s.Rollback()
		s.Commit()
	}
	wantOps(t, "behind Rollback", s, 200)
}

// P6.4: a walk counts when it is ranged over, each time, and each entry as it is given.
func TestWalksCount(t *testing.T) {
	s := filled(10)
	walk, prefix := s.Walk(numbered(2), numbered(7)), s.Prefix([]byte{0})
	wantOps(t, "walks that nobody has ranged over", s, 10)
	gone(walk)
	wantOps(t, "Walk over 5", s, 16)
	gone(prefix)
	wantOps(t, "Prefix over 10", s, 27)
	gone(walk)
	wantOps(t, "Walk over 5 again", s, 33)
	gone(s.Walk(numbered(7), numbered(2)))
	gone(s.Prefix([]byte("none")))
	wantOps(t, "walks over nothing", s, 35)
	n := 35
	for _, walk := range walks(s) {
		for range walk {
			break
		}
		n += 2
		wantOps(t, "left at the first entry", s, n)
		given := 0
		for range walk {
			given++
			wantOps(t, "as entries are given", s, n+1+given)
			if given == 4 {
				break
			}
		}
		n += 5
		wantOps(t, "left at the fourth entry", s, n)
		for range walk {
			s.Has(numbered(1))
		}
		n += 21
		wantOps(t, "asked within a walk", s, n)
	}
}

// P6.4: walks of an empty store count 1 each time.
func TestWalksOverNothingCount(t *testing.T) {
	s := kv.New()
	n := 0
	for _, walk := range walks(s) {
		for range 3 {
			gone(walk)
			n++
			wantOps(t, "a walk over nothing", s, n)
		}
	}
}

// P6.4: several goroutines may read at once, by what they share, too; all operations count, and all answers are right.
func TestReadAtOnce(t *testing.T) {
	s := filled(100)
	begin(t, s, 3)
	s.Set(numbered(7), []byte("seven"))
	want := all(s)
	walk, prefix := s.Walk(nil, nil), s.Prefix([]byte{0})
	var group sync.WaitGroup
	for range 8 {
		group.Go(func() {
			for i := range 100 {
				if v, there := s.Get(numbered(i)); !there || !bytes.Equal(v, []byte(want[i].value)) {
					t.Errorf("P6.4: Get at once: %q, %t", v, there)
				}
				if !s.Has(numbered(i)) || s.Has(numbered(i+100)) {
					t.Error("P6.4: Has at once")
				}
				if s.Depth() != 3 || s.Ops() < 101 {
					t.Errorf("P6.4: Depth %d, Ops %d at once", s.Depth(), s.Ops())
				}
			}
			for range 5 {
				if len(gone(walk)) != 100 || len(gone(prefix)) != 100 || len(gone(s.Prefix(numbered(9)))) != 1 {
					t.Error("P6.4: walks at once")
				}
			}
		})
	}
	group.Wait()
	wantOps(t, "read at once", s, 101+8*(300+5*(101+101+2)))
}
