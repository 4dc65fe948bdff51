package page_test

import (
	"slices"
	"testing"

	"glean/page"
)

// The document's examples.
func TestExamples(t *testing.T) {
	wantPages(t, "32 keys", filled(0, 32), 32)
	m := filled(0, 33)
	wantPages(t, "33 keys rising", m, 16, 17)
	for left := 16; left >= 1; left-- {
		take(t, m, 16+left)
		wantPages(t, "from the last one", m, 16, left)
	}
	take(t, m, 16)
	wantPages(t, "the 17th, too", m, 16)
	n := page.New()
	for _, k := range []string{"ba", "d", "a", "c", "b"} {
		n.Set([]byte(k), nil)
	}
	if got := gone(n.Walk([]byte("b"), []byte("d"))); !slices.Equal(got, []pair{{"b", ""}, {"ba", ""}, {"c", ""}}) {
		t.Errorf("P5.3: Walk(b, d): %q", got)
	}
}

// P5.2: a page that has more than 32 entries becomes two, wherever the new key comes.
func TestSplit(t *testing.T) {
	for hole := range 33 {
		m := page.New()
		for i := range 33 {
			if i != hole {
				m.Set(numbered(i), nil)
			}
		}
		wantPages(t, "32 keys", m, 32)
		m.Set(numbered(hole), nil)
		wantPages(t, "33 keys", m, 16, 17)
		m.Set(numbered(40), nil)
		wantPages(t, "above them all", m, 16, 18)
	}
}

// P5.2: a new key comes into the last page whose first key isn't above it.
func TestPlaceOfANewKey(t *testing.T) {
	beyond := func(i int) []byte { return append(numbered(i), 0) }
	cases := []struct {
		what string
		key  []byte
		want []int
	}{
		{"below the first key", []byte{}, []int{17, 16, 17}},
		{"behind the first key", beyond(0), []int{17, 16, 17}},
		{"behind a page's last key", beyond(15), []int{17, 16, 17}},
		{"behind a page's first key", beyond(16), []int{16, 17, 17}},
		{"behind the last key of the next one", beyond(31), []int{16, 17, 17}},
		{"behind the last page's first key", beyond(32), []int{16, 16, 18}},
		{"behind the last key", beyond(48), []int{16, 16, 18}},
		{"above all", []byte{255}, []int{16, 16, 18}},
	}
	for _, c := range cases {
		m := filled(0, 49)
		wantPages(t, "49 keys", m, 16, 16, 17)
		if !m.Set(c.key, nil) {
			t.Errorf("P5.1: %s: the key isn't new", c.what)
		}
		wantPages(t, c.what, m, c.want...)
	}
}

// P5.2: where the first key of a page was deleted, a key between the pages comes into the earlier one.
func TestPlaceBehindADeletedFirstKey(t *testing.T) {
	m := filled(0, 49)
	take(t, m, 16, 0)
	wantPages(t, "two first keys gone", m, 15, 15, 17)
	m.Set(numbered(16), nil)
	wantPages(t, "one of them comes again", m, 16, 15, 17)
	m.Set(numbered(0), nil)
	wantPages(t, "and the other one", m, 17, 15, 17)
}

// P5.2: Set of a key that is there changes no page, even of a full one.
func TestSetOfWhatIsThere(t *testing.T) {
	for _, n := range []int{1, 32, 33, 64, 65, 200} {
		m := filled(0, n)
		before := m.Pages()
		for i := range n {
			if m.Set(numbered(i), []byte("again")) {
				t.Fatalf("P5.1: the key %d is new", i)
			}
			wantPages(t, "set again", m, before...)
		}
	}
}

// P5.2: a page without entries goes, and its neighbours stay as they are.
func TestPageGoes(t *testing.T) {
	m := filled(0, 49)
	take(t, m, between(16, 30)...)
	wantPages(t, "one entry is left between", m, 16, 1, 17)
	take(t, m, 31)
	wantPages(t, "none is left between", m, 16, 17)
	m = filled(0, 49)
	take(t, m, between(0, 14)...)
	wantPages(t, "one entry is left at first", m, 1, 16, 17)
	take(t, m, 15)
	wantPages(t, "none is left at first", m, 16, 17)
	m = filled(0, 1)
	take(t, m, 0)
	wantPages(t, "the only entry", m)
	m.Set(numbered(7), nil)
	wantPages(t, "a page of its own", m, 1)
}

// P5.2: a page and the one behind it become one at 16 entries together, not at 17.
func TestJoinBehind(t *testing.T) {
	m := filled(0, 49) // 16, 16, 17
	take(t, m, between(16, 27)...)
	wantPages(t, "4 entries between", m, 16, 4, 17)
	take(t, m, between(0, 11)...)
	wantPages(t, "joined to the page behind it, the first one shrinking", m, 8, 17)
	if got := m.Len(); got != 25 {
		t.Errorf("P5.2: Len %d, not 25", got)
	}
	m = filled(0, 33) // 16, 17
	take(t, m, 32)
	take(t, m, between(0, 14)...)
	wantPages(t, "17 together", m, 1, 16)
	take(t, m, 31)
	wantPages(t, "16 together", m, 16)
}

// P5.2: of two neighbours that would do, the page behind comes first; the page ahead only if that doesn't.
func TestJoinAheadOrBehind(t *testing.T) {
	m := filled(0, 49) // 16, 16, 17
	take(t, m, between(4, 15)...)
	take(t, m, between(36, 48)...)
	wantPages(t, "few at both sides", m, 4, 16, 4)
	take(t, m, between(16, 18)...)
	wantPages(t, "17 with either", m, 4, 13, 4)
	take(t, m, 19)
	wantPages(t, "16 with either", m, 4, 16)
	m = filled(0, 49)
	take(t, m, between(4, 15)...)
	wantPages(t, "few ahead", m, 4, 16, 17)
	take(t, m, between(16, 18)...)
	wantPages(t, "17 with the one ahead", m, 4, 13, 17)
	take(t, m, 19)
	wantPages(t, "16 with the one ahead", m, 16, 17)
	m = filled(0, 33)
	take(t, m, between(32, 17)...)
	take(t, m, 15)
	wantPages(t, "joined to the page behind, the last one", m, 16)
}

// P5.2: Delete of what isn't there changes no page.
func TestDeleteOfWhatIsNot(t *testing.T) {
	m := filled(0, 100)
	before, held := m.Pages(), all(m)
	for i := range 100 {
		if m.Delete(append(numbered(i), 0)) || m.Delete(numbered(i)[:1]) {
			t.Fatalf("P5.1: something lay beside the key %d", i)
		}
	}
	if m.Delete(nil) || m.Delete([]byte{255}) {
		t.Errorf("P5.1: something lay ahead of all, or behind")
	}
	wantPages(t, "nothing was there", m, before...)
	if !slices.Equal(all(m), held) {
		t.Errorf("P5.1: Delete of what isn't there changed entries")
	}
}

// P5.2: many keys, falling and rising.
func TestManyPages(t *testing.T) {
	m := page.New()
	for i := 999; i >= 0; i-- {
		m.Set(numbered(i), nil)
	}
	o := &model{}
	for i := 999; i >= 0; i-- {
		o.set(string(numbered(i)), "")
	}
	wantSame(t, "1000 keys falling", m, o)
	n := filled(0, 1000)
	want := append(slices.Repeat([]int{16}, 61), 24)
	wantPages(t, "1000 keys rising", n, want...)
}
