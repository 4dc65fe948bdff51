package page_test

import (
	"bytes"
	"strings"
	"testing"

	"glean/page"
)

// P5.1: of an empty map.
func TestNothingLiesThere(t *testing.T) {
	m := page.New()
	for _, k := range [][]byte{nil, {}, {0}, []byte("a")} {
		if v, ok := m.Get(k); v != nil || ok {
			t.Errorf("P5.1: Get(%q) of an empty map: %q, %t", k, v, ok)
		}
		if m.Delete(k) {
			t.Errorf("P5.1: Delete(%q) of an empty map found something", k)
		}
	}
	if m.Len() != 0 || len(m.Pages()) != 0 || len(all(m)) != 0 || len(gone(m.Back(nil, nil))) != 0 {
		t.Errorf("P5.1, P5.2: an empty map has %d keys, pages %v", m.Len(), m.Pages())
	}
}

// P5.1: what was laid last is told; Set and Delete tell what was there.
func TestSetGetDelete(t *testing.T) {
	m := page.New()
	a, b := []byte("a"), []byte("b")
	steps := []struct {
		what      string
		got, want bool
	}{
		{"Set of a new key", m.Set(a, []byte("1")), true},
		{"Set of another", m.Set(b, []byte("2")), true},
		{"Set of a key that is there", m.Set(a, []byte("3")), false},
		{"Set of what lies there", m.Set(a, []byte("3")), false},
		{"Delete of b", m.Delete(b), true},
		{"Delete of b once more", m.Delete(b), false},
		{"Set of b behind it", m.Set(b, []byte("4")), true},
	}
	for _, s := range steps {
		if s.got != s.want {
			t.Errorf("P5.1: %s: %t", s.what, s.got)
		}
	}
	wantSame(t, "at the end", m, &model{pages: [][]pair{{{"a", "3"}, {"b", "4"}}}})
	if v, ok := m.Get(a); string(v) != "3" || !ok {
		t.Errorf("P5.1: Get(a): %q, %t", v, ok)
	}
	if v, ok := m.Get([]byte("ab")); v != nil || ok {
		t.Errorf("P5.1: Get of a key between: %q, %t", v, ok)
	}
}

// P5.1: no bytes are a key and a value, too; a nil list and an empty one are the same.
func TestNoBytes(t *testing.T) {
	m := page.New()
	if !m.Set(nil, nil) || m.Set([]byte{}, []byte{}) || m.Len() != 1 {
		t.Fatalf("P5.1: no bytes as a key: Len %d", m.Len())
	}
	for _, k := range [][]byte{nil, {}} {
		if v, ok := m.Get(k); len(v) != 0 || !ok {
			t.Errorf("P5.1: Get(%v): %v, %t", k, v, ok)
		}
	}
	m.Set([]byte{0}, []byte("x"))
	if got := all(m); got[0] != (pair{"", ""}) || got[1] != (pair{"\x00", "x"}) {
		t.Errorf("P5.1: %q", got)
	}
	if m.Set([]byte{0}, nil) {
		t.Errorf("P5.1: a key whose value becomes no bytes is new")
	}
	if v, ok := m.Get([]byte{0}); len(v) != 0 || !ok {
		t.Errorf("P5.1: a value of no bytes: %v, %t", v, ok)
	}
	if !m.Delete([]byte{}) || m.Delete(nil) || m.Len() != 1 {
		t.Errorf("P5.1: Delete of no bytes: Len %d", m.Len())
	}
}

// P5.1: keys and values of any length and of any bytes.
func TestLongKeys(t *testing.T) {
	m := page.New()
	long := []byte(strings.Repeat("k", 1<<20))
	longer := append(bytes.Clone(long), 0)
	m.Set(longer, long)
	m.Set(long, longer)
	if v, ok := m.Get(long); !ok || !bytes.Equal(v, longer) {
		t.Errorf("P5.1: a long key: %d bytes, %t", len(v), ok)
	}
	if v, ok := m.Get(longer); !ok || !bytes.Equal(v, long) {
		t.Errorf("P5.1: a longer key: %d bytes, %t", len(v), ok)
	}
	if got := all(m); len(got[0].key) != 1<<20 || len(got[1].key) != 1<<20+1 {
		t.Errorf("P5.1: the longer key stands first")
	}
	for i := range 256 {
		m.Set([]byte{byte(i)}, []byte{byte(255 - i)})
	}
	for i := range 256 {
		if v, ok := m.Get([]byte{byte(i)}); !ok || !bytes.Equal(v, []byte{byte(255 - i)}) {
			t.Errorf("P5.1: the key %d: %v, %t", i, v, ok)
		}
	}
}

// Keys stand byte by byte, as numbers from 0 to 255; one that is another one's beginning stands ahead of it.
func TestOrder(t *testing.T) {
	rising := []string{"", "\x00", "\x00\x00", "\x00\xff", "\x01", "A", "a", "a\x00", "a\x00b", "aa", "ab", "b", "\x7f", "\x80", "\xc3\xa4", "\xff", "\xff\x00", "\xff\xff"}
	for turn := range len(rising) {
		m := page.New()
		for i := range rising {
			m.Set([]byte(rising[(i*7+turn)%len(rising)]), []byte{byte(i)})
		}
		for i, e := range all(m) {
			if e.key != rising[i] {
				t.Fatalf("P5.3: %q stands at %d, not %q", e.key, i, rising[i])
			}
		}
		if m.Len() != len(rising) {
			t.Fatalf("P5.1: Len %d, not %d", m.Len(), len(rising))
		}
	}
}
