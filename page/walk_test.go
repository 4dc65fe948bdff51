package page_test

import (
	"fmt"
	"iter"
	"math/rand"
	"slices"
	"testing"

	"glean/page"
)

// letters makes a map whose keys are those texts, and their values, too.
func letters(keys ...string) *page.Map {
	m := page.New()
	for _, k := range keys {
		m.Set([]byte(k), []byte(k+"!"))
	}
	return m
}

// names tells the keys of a walk, and fails unless each value is its key's.
func names(t *testing.T, walk iter.Seq2[[]byte, []byte]) string {
	t.Helper()
	out := ""
	for k, v := range walk {
		if string(v) != string(k)+"!" {
			t.Errorf("P5.3: %q lies for %q", v, k)
		}
		out += string(k) + " "
	}
	return out
}

// P5.3: from is within, to isn't; no bytes, nil or not, are no bound.
func TestBounds(t *testing.T) {
	m := letters("c", "a", "d", "ba", "b")
	cases := []struct {
		from, to     []byte
		rising, back string
	}{
		{nil, nil, "a b ba c d ", "d c ba b a "},
		{[]byte{}, []byte{}, "a b ba c d ", "d c ba b a "},
		{nil, []byte{}, "a b ba c d ", "d c ba b a "},
		{[]byte("b"), []byte("d"), "b ba c ", "c ba b "},
		{[]byte("b"), nil, "b ba c d ", "d c ba b "},
		{[]byte("b"), []byte{}, "b ba c d ", "d c ba b "},
		{[]byte("b\x00"), nil, "ba c d ", "d c ba "},
		{nil, []byte("b"), "a ", "a "},
		{nil, []byte("b\x00"), "a b ", "b a "},
		{nil, []byte("a"), "", ""},
		{nil, []byte("d"), "a b ba c ", "c ba b a "},
		{nil, []byte("e"), "a b ba c d ", "d c ba b a "},
		{[]byte("d"), nil, "d ", "d "},
		{[]byte("d"), []byte("d\x00"), "d ", "d "},
		{[]byte("d\x00"), nil, "", ""},
		{[]byte("b"), []byte("b"), "", ""},
		{[]byte("c"), []byte("b"), "", ""},
		{[]byte("z"), []byte("a"), "", ""},
		{[]byte{0}, []byte{255}, "a b ba c d ", "d c ba b a "},
	}
	for _, c := range cases {
		if got := names(t, m.Walk(c.from, c.to)); got != c.rising {
			t.Errorf("P5.3: Walk(%q, %q): %q, not %q", c.from, c.to, got, c.rising)
		}
		if got := names(t, m.Back(c.from, c.to)); got != c.back {
			t.Errorf("P5.3: Back(%q, %q): %q, not %q", c.from, c.to, got, c.back)
		}
	}
}

// P5.3: a key of no bytes isn't below any from, and is below every bound.
func TestBoundsOfNoBytes(t *testing.T) {
	m := letters("", "\x00")
	if got := names(t, m.Walk(nil, []byte{0})); got != " " {
		t.Errorf("P5.3: Walk(nil, 0): %q", got)
	}
	if got := names(t, m.Back([]byte{}, []byte{})); got != "\x00  " {
		t.Errorf("P5.3: Back of all: %q", got)
	}
	if got := names(t, m.Back([]byte{0}, nil)); got != "\x00 " {
		t.Errorf("P5.3: Back(0, nil): %q", got)
	}
}

// P5.3: bounds at, ahead of and behind every key, over several pages, the first keys of which are partly gone.
func TestBoundsOverPages(t *testing.T) {
	m, o := page.New(), &model{}
	for i := range 70 {
		m.Set(numbered(i), []byte{byte(i)})
		o.set(string(numbered(i)), string([]byte{byte(i)}))
	}
	for _, i := range []int{0, 16, 31, 48} {
		m.Delete(numbered(i))
		o.remove(string(numbered(i)))
	}
	wantSame(t, "66 keys", m, o)
	bounds := [][]byte{nil, {0}, {1}}
	for i := range 70 {
		bounds = append(bounds, numbered(i), append(numbered(i), 0))
	}
	for _, from := range bounds {
		for _, to := range bounds {
			want := o.between(string(from), string(to))
			if got := gone(m.Walk(from, to)); !slices.Equal(got, want) {
				t.Fatalf("P5.3: Walk(%v, %v): %q, not %q", from, to, got, want)
			}
			if got := gone(m.Back(from, to)); !slices.Equal(got, turned(want)) {
				t.Fatalf("P5.3: Back(%v, %v): %q, not %q", from, to, got, turned(want))
			}
		}
	}
}

// both tells a map's two walks of all, and their names.
func both(m *page.Map) map[string]iter.Seq2[[]byte, []byte] {
	return map[string]iter.Seq2[[]byte, []byte]{"Walk": m.Walk(nil, nil), "Back": m.Back(nil, nil)}
}

// A walk may be left at any point, and gone through again.
func TestLeaveAWalk(t *testing.T) {
	m := filled(0, 70)
	for name, walk := range both(m) {
		whole := gone(walk)
		if len(whole) != 70 {
			t.Fatalf("P5.3: %s gives %d entries, not 70", name, len(whole))
		}
		for n := range 70 {
			var got []pair
			for k, v := range walk {
				got = append(got, pair{string(k), string(v)})
				if len(got) > n {
					break
				}
			}
			if !slices.Equal(got, whole[:n+1]) {
				t.Fatalf("P5.3: %s, left behind %d: %q", name, n+1, got)
			}
		}
		if !slices.Equal(gone(walk), whole) {
			t.Errorf("P5.3: %s, gone through again, gives something else", name)
		}
	}
}

// Two goes through one walk, one within the other, or beside it, don't touch one another.
func TestWalksWithinOneAnother(t *testing.T) {
	m := filled(0, 40)
	for name, walk := range both(m) {
		whole := gone(walk)
		outer := 0
		for range walk {
			outer++
			if !slices.Equal(gone(walk), whole) {
				t.Fatalf("P5.3: %s within itself gives something else", name)
			}
		}
		if outer != 40 {
			t.Errorf("P5.3: %s around itself gives %d entries", name, outer)
		}
		first, stopFirst := iter.Pull2(walk)
		second, stopSecond := iter.Pull2(walk)
		for i := range 40 {
			k, _, ok := first()
			l, _, also := second()
			if !ok || !also || string(k) != whole[i].key || string(l) != whole[i].key {
				t.Fatalf("P5.3: %s, pulled: %q, %q, not %q", name, k, l, whole[i].key)
			}
		}
		if _, _, ok := first(); ok {
			t.Errorf("P5.3: %s, pulled, doesn't end", name)
		}
		stopFirst()
		stopSecond()
	}
}

// A walk gives what the map holds when it is gone through, not when it was asked for.
func TestWalkAskedForAhead(t *testing.T) {
	m := page.New()
	walk, back := m.Walk([]byte("b"), []byte("y")), m.Back([]byte("b"), []byte("y"))
	for _, k := range []string{"a", "b", "m", "x", "y"} {
		m.Set([]byte(k), []byte(k+"!"))
	}
	if got := names(t, walk); got != "b m x " {
		t.Errorf("P5.3: Walk, asked for ahead: %q", got)
	}
	if got := names(t, back); got != "x m b " {
		t.Errorf("P5.3: Back, asked for ahead: %q", got)
	}
	for i := range 100 {
		m.Set(fmt.Appendf(nil, "n%03d", i), fmt.Appendf(nil, "n%03d!", i))
	}
	m.Delete([]byte("m"))
	if got := gone(walk); len(got) != 102 || got[1].key != "n000" {
		t.Errorf("P5.3: Walk, behind changes: %q", got)
	}
	for _, e := range all(m) {
		m.Delete([]byte(e.key))
	}
	if got := names(t, walk) + names(t, back); got != "" {
		t.Errorf("P5.3: walks of an emptied map: %q", got)
	}
}

// A map isn't to be changed while it is gone through; but a walk ends then, too, without a panic.
func TestChangedWhileGoneThrough(t *testing.T) {
	for seed := range int64(200) {
		for name := range both(page.New()) {
			r := rand.New(rand.NewSource(seed))
			m := filled(0, 20+r.Intn(80))
			steps := 0
			for k := range both(m)[name] {
				steps++
				if steps > 100 {
					t.Fatalf("%s doesn't end", name)
				}
				switch r.Intn(4) {
				case 0:
					m.Delete(k)
				case 1:
					m.Set(append(k, 0), nil)
				case 2:
					m.Delete(numbered(r.Intn(100)))
				}
			}
			if m.Len() != len(all(m)) {
				t.Fatalf("P5.4: Len %d, but %d entries", m.Len(), len(all(m)))
			}
		}
	}
}
