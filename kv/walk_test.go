package kv_test

import (
	"bytes"
	"iter"
	"slices"
	"testing"

	"glean/api"
	"glean/kv"
)

// hard tells keys and beginnings whose bytes stand at the edges: the lowest, the highest, and some that are no text, or the sign for that.
func hard() []string {
	parts := []string{"\x00", "a", "b", "\x7f", "\x80", "\xfe", "\xff", "\xef\xbf\xbd"}
	out := slices.Clone(parts)
	for _, p := range parts {
		for _, q := range parts {
			out = append(out, p+q, p+"\xff"+q)
		}
	}
	return out
}

// both makes a store and its model that hold those keys.
func both(keys ...string) (*kv.Store, *model) {
	s, o := kv.New(), newModel()
	for i, k := range keys {
		s.Set([]byte(k), []byte{byte(i)})
		o.set(k, string([]byte{byte(i)}))
	}
	return s, o
}

// P6.3: Walk's bounds: from is within, to isn't; no bytes, nil or not, are no bound.
func TestWalk(t *testing.T) {
	s, _ := both("c", "a", "d", "ba", "b")
	cases := []struct {
		from, to []byte
		want     string
	}{
		{nil, nil, "a b ba c d "},
		{[]byte{}, []byte{}, "a b ba c d "},
		{[]byte("b"), []byte("d"), "b ba c "},
		{[]byte("b"), []byte{}, "b ba c d "},
		{[]byte("b\x00"), nil, "ba c d "},
		{nil, []byte("b"), "a "},
		{[]byte("b"), []byte("b"), ""},
		{[]byte("c"), []byte("b"), ""},
		{make([]byte, 100), bytes.Repeat([]byte{255}, 100), "a b ba c d "},
	}
	for _, c := range cases {
		got := ""
		for k := range s.Walk(c.from, c.to) {
			got += string(k) + " "
		}
		if got != c.want {
			t.Errorf("P6.3: Walk(%q, %q): %q, not %q", c.from, c.to, got, c.want)
		}
	}
}

// P6.3: Prefix gives the keys that begin so, the beginning itself, too.
func TestPrefix(t *testing.T) {
	s, _ := both("a", "ab", "abc", "ac", "b", "B", "aB")
	for p, want := range map[string]string{"": "B a aB ab abc ac b ", "a": "a aB ab abc ac ", "ab": "ab abc ", "abc": "abc ", "abcd": "", "b": "b ", "c": "", "A": ""} {
		got := ""
		for k := range s.Prefix([]byte(p)) {
			got += string(k) + " "
		}
		if got != want {
			t.Errorf("P6.3: Prefix(%q): %q, not %q", p, got, want)
		}
	}
	if got := gone(s.Prefix(nil)); len(got) != 7 {
		t.Errorf("P6.3: Prefix(nil): %q", got)
	}
	if got := gone(kv.New().Prefix(nil)); len(got) != 0 {
		t.Errorf("P6.3: Prefix of an empty store: %q", got)
	}
}

// P6.6: Prefix is what Walk gives of those that begin so, where bytes can't grow, and where they are no text, too.
func TestPrefixOfHardBytes(t *testing.T) {
	s, o := both(hard()...)
	wantSame(t, "P6.1: hard keys", s, o)
	for _, p := range append(hard(), "", "\xff\xff\xff", "a\xff\xff", "\x00\x00\x00") {
		var want []pair
		for k, v := range s.Walk(nil, nil) {
			if bytes.HasPrefix(k, []byte(p)) {
				want = append(want, pair{string(k), string(v)})
			}
		}
		if !slices.Equal(want, o.beginning(p)) {
			t.Fatalf("P6.3: Walk gives %q of %q", want, p)
		}
		if got := gone(s.Prefix([]byte(p))); !slices.Equal(got, want) {
			t.Errorf("P6.6: Prefix(%q): %q, not %q", p, got, want)
		}
	}
}

// P6.3: beginnings as long as keys are, and longer.
func TestLongPrefix(t *testing.T) {
	s := kv.New()
	for _, b := range []byte{0, 'a', 255} {
		k := bytes.Repeat([]byte{b}, api.MaxKey)
		s.Set(k, nil)
		if got := gone(s.Prefix(k)); len(got) != 1 || got[0].key != string(k) {
			t.Errorf("P6.3: Prefix of a longest key: %q", got)
		}
		if got := gone(s.Prefix(k[1:])); len(got) != 1 {
			t.Errorf("P6.3: Prefix of a longest key's beginning: %q", got)
		}
		for _, n := range []int{api.MaxKey + 1, 10000} {
			if got := gone(s.Prefix(bytes.Repeat([]byte{b}, n))); len(got) != 0 {
				t.Errorf("P6.3: Prefix of %d bytes: %q", n, got)
			}
		}
	}
}

// walks tells a store's walks of all, and their names.
func walks(s *kv.Store) map[string]iter.Seq2[[]byte, []byte] {
	return map[string]iter.Seq2[[]byte, []byte]{"Walk": s.Walk(nil, nil), "Prefix": s.Prefix(nil)}
}

// A walk may be left at any point, and gone through again, and gives what the store holds then.
func TestWalksAgain(t *testing.T) {
	s := filled(70)
	for name, walk := range walks(s) {
		for n := range 70 {
			var got []pair
			for k, v := range walk {
				got = append(got, pair{string(k), string(v)})
				if len(got) > n {
					break
				}
			}
			if !slices.Equal(got, all(s)[:n+1]) {
				t.Fatalf("P6.3: %s, left behind %d: %q", name, n+1, got)
			}
		}
		begin(t, s, 1)
		s.Delete(numbered(3))
		if got := gone(walk); len(got) != 69 || !slices.Equal(got, all(s)) {
			t.Errorf("P6.3: %s behind a Delete: %q", name, got)
		}
		s.Rollback()
		if got := gone(walk); len(got) != 70 || !slices.Equal(got, all(s)) {
			t.Errorf("P6.5: %s behind a Rollback: %q", name, got)
		}
	}
}

// P6.3: Dump tells all entries, rising; of an empty store, none.
func TestDump(t *testing.T) {
	if got := kv.New().Dump(); len(got) != 0 {
		t.Errorf("P6.3: Dump of an empty store: %v", got)
	}
	s, o := both(hard()...)
	if got := all(s); !slices.Equal(got, o.entries()) || !slices.Equal(got, gone(s.Walk(nil, nil))) {
		t.Errorf("P6.3: Dump: %q, not %q", got, o.entries())
	}
}

// P6.3: a copy has the same entries, no journal, and no operations; neither store touches the other one.
func TestCopy(t *testing.T) {
	s := filled(100)
	begin(t, s, 2)
	lay(t, s, "a", "1")
	c := s.Copy()
	if c.Depth() != 0 || c.Ops() != 0 || !slices.Equal(all(c), all(s)) {
		t.Fatalf("P6.3: a copy: Depth %d, Ops %d, entries %q", c.Depth(), c.Ops(), all(c))
	}
	wantErr(t, "P6.3: Rollback of a copy", c.Rollback(), api.ErrKVDepth)
	wantErr(t, "P6.3: Commit of a copy", c.Commit(), api.ErrKVDepth)
	if s.Depth() != 2 || s.Ops() != 101 {
		t.Fatalf("P6.3: copied: Depth %d, Ops %d", s.Depth(), s.Ops())
	}
	before := all(c)
	wantErr(t, "P6.2: Rollback", s.Rollback(), api.OK)
	s.Delete(numbered(50))
	if !slices.Equal(all(c), before) || c.Ops() != 0 {
		t.Errorf("P6.3: a store reaches its copy: %q, Ops %d", all(c), c.Ops())
	}
	before = all(s)
	begin(t, c, 1)
	for i := range 100 {
		c.Delete(numbered(i))
	}
	wantErr(t, "P6.2: Rollback of a copy", c.Rollback(), api.OK)
	lay(t, c, "b", "2")
	if !slices.Equal(all(s), before) || s.Depth() != 1 || s.Ops() != 102 {
		t.Errorf("P6.3: a copy reaches its store: %q, Depth %d, Ops %d", all(s), s.Depth(), s.Ops())
	}
}
