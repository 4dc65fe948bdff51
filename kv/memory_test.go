package kv_test

import (
	"bytes"
	"slices"
	"testing"

	"glean/api"
	"glean/kv"
)

// P6.6: what was handed in isn't changed, and may be changed behind the call, also where a journal takes it back later.
func TestWhatIsHandedIn(t *testing.T) {
	for _, depth := range []int{0, 1, 3} {
		s, o := kv.New(), newModel()
		for i := range 100 {
			s.Set(numbered(i*2), []byte("old"))
			o.set(string(numbered(i*2)), "old")
		}
		before := all(s)
		begin(t, s, depth)
		for i := range 200 {
			k, v := roomy(numbered(i)), roomy([]byte{byte(i), 1, 2})
			keyBefore, valueBefore := bytes.Clone(k[:cap(k)]), bytes.Clone(v[:cap(v)])
			s.Set(k, v)
			o.set(string(k), string(v))
			s.Get(k)
			s.Has(k)
			gone(s.Walk(k, v))
			gone(s.Prefix(k))
			if i%3 == 0 {
				s.Delete(k)
				o.remove(string(k))
			}
			if !bytes.Equal(k[:cap(k)], keyBefore) || !bytes.Equal(v[:cap(v)], valueBefore) {
				t.Fatalf("P6.6: what was handed in was changed: %v, %v", k[:cap(k)], v[:cap(v)])
			}
			spoil(k, 77)
			spoil(v, 78)
		}
		if !slices.Equal(all(s), o.entries()) {
			t.Fatalf("P6.6: the store follows what was handed in: %q", all(s))
		}
		for range depth {
			wantErr(t, "P6.2: Rollback", s.Rollback(), api.OK)
		}
		if depth > 0 && !slices.Equal(all(s), before) {
			t.Fatalf("P6.6: a journal follows what was handed in: %q", all(s))
		}
	}
}

// P6.6: Prefix doesn't write into its beginning, nor into the room behind it.
func TestPrefixLeavesItsBeginning(t *testing.T) {
	s, _ := both(hard()...)
	for _, p := range append(hard(), "", "a\xff\xff") {
		b := roomy([]byte(p))
		before := bytes.Clone(b[:cap(b)])
		gone(s.Prefix(b))
		if !bytes.Equal(b[:cap(b)], before) {
			t.Errorf("P6.6: Prefix(%q) changed what was handed in: %q", p, b[:cap(b)])
		}
	}
}

// P6.6: bounds and beginnings may be changed behind the call, ahead of the first go and between two.
func TestBoundsAreKeptApart(t *testing.T) {
	s := filled(600)
	from, to, p := numbered(20), numbered(60), []byte{1}
	walk, prefix := s.Walk(from, to), s.Prefix(p)
	for range 2 {
		spoil(from, 0)
		spoil(to, 255)
		spoil(p, 2)
		if got := gone(walk); len(got) != 40 || got[0].key != string(numbered(20)) {
			t.Fatalf("P6.6: Walk follows its bounds: %q", got)
		}
		if got := gone(prefix); len(got) != 256 || got[0].key != string(numbered(256)) {
			t.Fatalf("P6.6: Prefix follows its beginning: %q", got)
		}
	}
}

// P6.6: what was handed out may be changed: the store stays, and so do other answers, and what a journal takes back.
func TestWhatIsHandedOut(t *testing.T) {
	s := filled(100)
	want := all(s)
	first, _ := s.Get(numbered(50))
	second, _ := s.Get(numbered(50))
	spoil(first, 77)
	if !bytes.Equal(second, []byte{50, 5}) {
		t.Errorf("P6.6: two answers of Get share memory: %v", second)
	}
	begin(t, s, 1)
	s.Set(numbered(50), []byte("new"))
	spoil(second, 78)
	wantErr(t, "P6.2: Rollback", s.Rollback(), api.OK)
	third, _ := s.Get(numbered(50))
	spoil(third, 79)
	var kept [][]byte
	for _, walk := range walks(s) {
		for k, v := range walk {
			kept = append(kept, k, v)
		}
	}
	for _, p := range s.Dump() {
		kept = append(kept, p.Key, p.Value)
	}
	for i, b := range kept {
		spoil(b, 99)
		copy(b, numbered(i))
	}
	for i, b := range kept {
		if !bytes.Equal(b, numbered(i)) {
			t.Fatalf("P6.6: answers share memory: %v", b)
		}
	}
	if got := all(s); !slices.Equal(got, want) {
		t.Errorf("P6.6: the store follows what was handed out: %q", got)
	}
}

// P6.6: an answer stays what it was, whatever is done with the store behind it.
func TestAnswersStay(t *testing.T) {
	s := filled(40)
	v, _ := s.Get(numbered(3))
	dump := s.Dump()
	begin(t, s, 1)
	for i := range 40 {
		s.Set(numbered(i), []byte("xy"))
		s.Delete(numbered(39 - i))
	}
	wantErr(t, "P6.2: Rollback", s.Rollback(), api.OK)
	s.Set(numbered(3), []byte("zz"))
	if !bytes.Equal(v, []byte{3, 5}) || len(dump) != 40 || !bytes.Equal(dump[3].Key, numbered(3)) || !bytes.Equal(dump[3].Value, []byte{3, 5}) {
		t.Errorf("P6.6: answers were changed: %v, %v", v, dump)
	}
}
