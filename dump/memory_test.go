package dump_test

import (
	"bytes"
	"math/rand"
	"slices"
	"sync"
	"testing"

	"glean/api"
	"glean/dump"
)

// DOC.md, what holds everywhere, 3: what Export tells is new memory: neither the store nor another answer has part in it.
func TestWhatExportTells(t *testing.T) {
	r := rand.New(rand.NewSource(226))
	for range 100 {
		all := drawnPairs(r, 60)
		s := laid(all)
		one, _ := dump.Export(s)
		two, _ := dump.Export(s)
		spoil(one)
		if !bytes.Equal(two, spelt(all)) {
			t.Fatal("P22.1: two answers share memory")
		}
		wantExport(t, "behind a change of an answer", s, spelt(all))
		s.Set([]byte("another"), []byte("one"))
		if !bytes.Equal(two, spelt(all)) {
			t.Fatal("P22.1: an answer shares memory with the store")
		}
	}
}

// DOC.md, what holds everywhere, 3: Import and Rule neither change nor keep what they are handed, and don't read the room behind it; two stores don't touch one another.
func TestWhatImportIsHanded(t *testing.T) {
	for _, all := range [][]api.Pair{bare().Dump(), grown().Dump()} {
		whole := spelt(all)
		for n := range len(whole) + 1 {
			b := roomy(whole[:n:n], whole[n:])
			before := bytes.Clone(b[:cap(b)])
			one, e := dump.Import(b)
			two, _ := dump.Import(b)
			if (e == api.OK) != (n == len(whole)) || (dump.Rule(b) != 0) {
				t.Fatalf("P22.2: the room behind %d of %d bytes was read: %v", n, len(whole), e)
			}
			if !bytes.Equal(b[:cap(b)], before) {
				t.Fatal("P22.2: what was handed in was changed")
			}
			spoil(b)
			if e == api.OK {
				wantExport(t, "behind a change of what was handed in", one, whole)
				for _, p := range one.Dump() {
					one.Delete(p.Key)
				}
				wantExport(t, "behind a change of another store", two, whole)
			}
		}
	}
}

// P22.2: what Import tells is a store as any other one: it takes changes, and journals take them back.
func TestImportedStore(t *testing.T) {
	all := grown().Dump()
	s := wantTaken(t, "a grown state", spelt(all), all)
	if s.Rollback() != api.ErrKVDepth || s.Commit() != api.ErrKVDepth {
		t.Error("P22.2: a journal is under way")
	}
	s.Begin()
	for i, p := range all {
		if got, there := s.Get(p.Key); !there || !bytes.Equal(got, p.Value) {
			t.Fatalf("P22.2: under %x lies %x, not %x", p.Key, got, p.Value)
		}
		s.Delete(p.Key)
		s.Set(append(bytes.Clone(p.Key), 0), []byte{byte(i)})
	}
	if s.Ops() != 3*len(all) {
		t.Errorf("P22.2: %d operations, not %d", s.Ops(), 3*len(all))
	}
	s.Rollback()
	if !slices.EqualFunc(s.Dump(), all, samePair) {
		t.Error("P22.2: what was done wasn't taken back")
	}
}

// DOC.md, what holds everywhere, 9: calls at the same time answer as they do alone, also of one store and of the same bytes.
func TestAtTheSameTime(t *testing.T) {
	s, broken := grown(), grown()
	faults()[9](broken)
	want, bad := spelt(s.Dump()), spelt(broken.Dump())
	var all sync.WaitGroup
	for range 8 {
		all.Go(func() {
			for range 20 {
				b, e := dump.Export(s)
				other, f := dump.Import(want)
				if e != api.OK || f != api.OK || !bytes.Equal(b, want) || other.Ops() != 0 || dump.Rule(want) != 0 || dump.Rule(bad) != 10 {
					t.Errorf("P22.2: beside others: %v, %v", e, f)
					return
				}
			}
		})
	}
	all.Wait()
}
