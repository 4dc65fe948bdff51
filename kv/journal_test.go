package kv_test

import (
	"slices"
	"testing"

	"glean/api"
	"glean/kv"
)

// The chapter's example.
func TestExample(t *testing.T) {
	s := kv.New()
	lay(t, s, "a", "1")
	begin(t, s, 1)
	lay(t, s, "a", "2")
	begin(t, s, 1)
	take(t, s, "a")
	lay(t, s, "b", "3")
	wantErr(t, "P6.2: the inner Rollback", s.Rollback(), api.OK)
	wantLies(t, "P6.2: behind the inner Rollback", s, "a", "2")
	wantErr(t, "P6.2: the outer Rollback", s.Rollback(), api.OK)
	wantLies(t, "P6.2: behind the outer Rollback", s, "a", "1")
	if s.Ops() != 4 {
		t.Errorf("P6.4: Ops %d, not 4", s.Ops())
	}
	if v, there := s.Get([]byte("a")); string(v) != "1" || !there || s.Ops() != 5 {
		t.Errorf("P6.4: Get: %q, %t; Ops %d, not 5", v, there, s.Ops())
	}
	wantErr(t, "P6.2: Rollback of none", s.Rollback(), api.ErrKVDepth)
	wantErr(t, "P6.1: Set of no bytes", s.Set(nil, []byte("1")), api.ErrKVKey)
}

// P6.2: Commit and Rollback need a journal, also behind others that have ended; refused, they change nothing.
func TestNoneUnderWay(t *testing.T) {
	ends := map[string]func(*kv.Store) api.Errno{"Commit": (*kv.Store).Commit, "Rollback": (*kv.Store).Rollback}
	for name, end := range ends {
		s := kv.New()
		wantErr(t, "P6.2: "+name+" of an empty store", end(s), api.ErrKVDepth)
		lay(t, s, "a", "1")
		wantErr(t, "P6.2: "+name+" behind a Set", end(s), api.ErrKVDepth)
		begin(t, s, 2)
		for range 2 {
			wantErr(t, "P6.2: "+name, end(s), api.OK)
		}
		wantErr(t, "P6.2: "+name+" once too often", end(s), api.ErrKVDepth)
		wantErr(t, "P6.2: "+name+" once more", end(s), api.ErrKVDepth)
		if s.Depth() != 0 || s.Ops() != 1 {
			t.Errorf("P6.2, P6.4: Depth %d, Ops %d", s.Depth(), s.Ops())
		}
		wantLies(t, "P6.2: behind a refused "+name, s, "a", "1")
	}
}

// P6.2: MaxDepth journals can be under way, and no more; a refused Begin leaves them as they are.
func TestDepth(t *testing.T) {
	s := kv.New()
	for i := range api.MaxDepth {
		if s.Depth() != i {
			t.Fatalf("P6.2: Depth %d, not %d", s.Depth(), i)
		}
		lay(t, s, "a", string(rune('a'+i)))
		begin(t, s, 1)
	}
	lay(t, s, "a", "last")
	for range 3 {
		wantErr(t, "P6.2: Begin once too often", s.Begin(), api.ErrKVDepth)
	}
	for i := api.MaxDepth - 1; i >= 0; i-- {
		if s.Depth() != i+1 {
			t.Fatalf("P6.2: Depth %d, not %d", s.Depth(), i+1)
		}
		wantErr(t, "P6.2: Rollback", s.Rollback(), api.OK)
		wantLies(t, "P6.2: behind Rollback", s, "a", string(rune('a'+i)))
	}
	begin(t, s, api.MaxDepth)
	wantErr(t, "P6.2: Commit of the innermost one", s.Commit(), api.OK)
	wantErr(t, "P6.2: Begin in the room of one that has ended", s.Begin(), api.OK)
	wantErr(t, "P6.2: Begin once too often", s.Begin(), api.ErrKVDepth)
}

// P6.5: behind Commit all lies as was seen ahead of it, whatever the depth.
func TestCommitKeeps(t *testing.T) {
	s := kv.New()
	lay(t, s, "a", "1")
	lay(t, s, "b", "2")
	for _, depth := range []int{1, 2, api.MaxDepth} {
		begin(t, s, depth)
		lay(t, s, "a", "3")
		take(t, s, "b")
		lay(t, s, "c", "4")
		for range depth {
			wantErr(t, "P6.2: Commit", s.Commit(), api.OK)
			wantLies(t, "P6.5: behind Commit", s, "a", "3", "c", "4")
		}
		lay(t, s, "b", "2")
	}
}

// P6.2: what was committed is kept for no later journal: its Rollback doesn't take it back.
func TestCommittedAndDone(t *testing.T) {
	s := kv.New()
	begin(t, s, 1)
	lay(t, s, "a", "1")
	wantErr(t, "P6.2: Commit", s.Commit(), api.OK)
	lay(t, s, "b", "2")
	begin(t, s, 1)
	lay(t, s, "c", "3")
	wantErr(t, "P6.2: Rollback", s.Rollback(), api.OK)
	wantLies(t, "P6.5: behind a later Rollback", s, "a", "1", "b", "2")
	begin(t, s, 1)
	wantErr(t, "P6.2: Rollback of nothing", s.Rollback(), api.OK)
	wantLies(t, "P6.5: behind a Rollback of nothing", s, "a", "1", "b", "2")
}

// P6.5: what was committed within a journal goes with the journal around it, with what was done ahead of it and behind it.
func TestCommittedWithin(t *testing.T) {
	s := kv.New()
	lay(t, s, "a", "1")
	lay(t, s, "b", "1")
	begin(t, s, 1)
	lay(t, s, "a", "2")
	begin(t, s, 1)
	lay(t, s, "a", "3")
	take(t, s, "b")
	begin(t, s, 1)
	lay(t, s, "b", "4")
	wantErr(t, "P6.2: Commit of the innermost one", s.Commit(), api.OK)
	wantErr(t, "P6.2: Commit", s.Commit(), api.OK)
	lay(t, s, "a", "5")
	wantLies(t, "P6.5: behind two Commits", s, "a", "5", "b", "4")
	wantErr(t, "P6.2: Rollback", s.Rollback(), api.OK)
	wantLies(t, "P6.5: all of it is taken back", s, "a", "1", "b", "1")
}

// P6.5: what was taken back within a journal is no part of it.
func TestTakenBackWithin(t *testing.T) {
	for name, want := range map[string][]string{"Commit": {"a", "2", "b", "2"}, "Rollback": {"a", "1"}} {
		s := kv.New()
		lay(t, s, "a", "1")
		begin(t, s, 1)
		lay(t, s, "a", "2")
		begin(t, s, 1)
		take(t, s, "a")
		lay(t, s, "c", "3")
		wantErr(t, "P6.2: Rollback", s.Rollback(), api.OK)
		lay(t, s, "b", "2")
		if name == "Commit" {
			wantErr(t, "P6.2: Commit", s.Commit(), api.OK)
		} else {
			wantErr(t, "P6.2: Rollback", s.Rollback(), api.OK)
		}
		wantLies(t, "P6.5: behind "+name, s, want...)
	}
}

// P6.5: one key through all that can be done with it; the last thing is taken back first.
func TestOneKeyBack(t *testing.T) {
	ways := map[string]func(*kv.Store){
		"set":                 func(s *kv.Store) { lay(t, s, "a", "9") },
		"set twice":           func(s *kv.Store) { lay(t, s, "a", "8"); lay(t, s, "a", "9") },
		"set to no bytes":     func(s *kv.Store) { lay(t, s, "a", "") },
		"set and deleted":     func(s *kv.Store) { lay(t, s, "a", "9"); take(t, s, "a") },
		"deleted":             func(s *kv.Store) { s.Delete([]byte("a")) },
		"deleted twice":       func(s *kv.Store) { s.Delete([]byte("a")); s.Delete([]byte("a")) },
		"deleted and set":     func(s *kv.Store) { s.Delete([]byte("a")); lay(t, s, "a", "9") },
		"set, deleted, set":   func(s *kv.Store) { lay(t, s, "a", "8"); take(t, s, "a"); lay(t, s, "a", "9") },
		"asked, and not more": func(s *kv.Store) { s.Get([]byte("a")); s.Has([]byte("a")); gone(s.Prefix(nil)) },
	}
	for name, do := range ways {
		for _, first := range []string{"absent", "of no bytes", "of some"} {
			s := kv.New()
			s.Set([]byte("b"), []byte("beside"))
			if first != "absent" {
				s.Set([]byte("a"), []byte(map[string]string{"of some": "1"}[first]))
			}
			before := all(s)
			begin(t, s, 1)
			do(s)
			wantErr(t, "P6.2: Rollback", s.Rollback(), api.OK)
			if got := all(s); !slices.Equal(got, before) {
				t.Errorf("P6.5: a value %s, %s: %q, not %q", first, name, got, before)
			}
		}
	}
}

// P6.5: many entries come and go within a journal, so that pages are split and joined, and come back.
func TestManyEntriesBack(t *testing.T) {
	s := filled(300)
	before := all(s)
	begin(t, s, 1)
	for i := range 300 {
		s.Delete(numbered(i * 77 % 300))
	}
	wantLies(t, "P6.1: all is deleted", s)
	for i := range 900 {
		s.Set(numbered(i*7%900), []byte("new"))
	}
	begin(t, s, 1)
	for i := range 900 {
		if i%3 > 0 {
			s.Delete(numbered(i))
		}
	}
	wantErr(t, "P6.2: Commit", s.Commit(), api.OK)
	if len(s.Dump()) != 300 {
		t.Fatalf("P6.5: %d entries, not 300", len(s.Dump()))
	}
	wantErr(t, "P6.2: Rollback", s.Rollback(), api.OK)
	if got := all(s); !slices.Equal(got, before) {
		t.Errorf("P6.5: %d entries came back otherwise: %q", len(got), got)
	}
}
