package page_test

import (
	"bytes"
	"iter"
	"math/rand"
	"slices"
	"testing"

	"glean/page"
)

// pair: a key and its value, as texts, so that a model's can't be changed from outside.
type pair struct{ key, value string }

// model: a map that does what the chapter says in the plainest way, page by page and entry by entry.
type model struct{ pages [][]pair }

// entries tells all of them, rising.
func (o *model) entries() []pair { return slices.Concat(o.pages...) }

// sizes tells how many entries each page has.
func (o *model) sizes() []int {
	var out []int
	for _, p := range o.pages {
		out = append(out, len(p))
	}
	return out
}

// get looks at every entry.
func (o *model) get(k string) (string, bool) {
	for _, e := range o.entries() {
		if e.key == k {
			return e.value, true
		}
	}
	return "", false
}

// set follows P5.2 word by word.
func (o *model) set(k, v string) bool {
	target := 0
	for n, p := range o.pages {
		for i := range p {
			if p[i].key == k {
				p[i].value = v
				return false
			}
		}
		if p[0].key <= k {
			target = n
		}
	}
	if len(o.pages) == 0 {
		o.pages = [][]pair{nil}
	}
	full := append(slices.Clone(o.pages[target]), pair{k, v})
	slices.SortFunc(full, func(a, b pair) int { return bytes.Compare([]byte(a.key), []byte(b.key)) })
	o.pages[target] = full
	if len(full) > 32 {
		o.pages = slices.Replace(o.pages, target, target+1, slices.Clone(full[:16]), slices.Clone(full[16:]))
	}
	return true
}

// remove follows P5.2 word by word.
func (o *model) remove(k string) bool {
	for n, p := range o.pages {
		i := slices.IndexFunc(p, func(e pair) bool { return e.key == k })
		if i < 0 {
			continue
		}
		p = slices.Delete(slices.Clone(p), i, i+1)
		o.pages[n] = p
		if len(p) == 0 {
			o.pages = slices.Delete(o.pages, n, n+1)
		} else if n+1 < len(o.pages) && len(p)+len(o.pages[n+1]) <= 16 {
			o.pages = slices.Replace(o.pages, n, n+2, slices.Concat(p, o.pages[n+1]))
		} else if n > 0 && len(o.pages[n-1])+len(p) <= 16 {
			o.pages = slices.Replace(o.pages, n-1, n+1, slices.Concat(o.pages[n-1], p))
		}
		return true
	}
	return false
}

// between tells the entries within bounds, rising.
func (o *model) between(from, to string) []pair {
	var out []pair
	for _, e := range o.entries() {
		if e.key >= from && (to == "" || e.key < to) {
			out = append(out, e)
		}
	}
	return out
}

// turned tells a list from its end on.
func turned(l []pair) []pair {
	out := slices.Clone(l)
	slices.Reverse(out)
	return out
}

// gone goes through a walk to its end.
func gone(walk iter.Seq2[[]byte, []byte]) []pair {
	var out []pair
	for k, v := range walk {
		out = append(out, pair{string(k), string(v)})
	}
	return out
}

// all tells what a map holds.
func all(m *page.Map) []pair { return gone(m.Walk(nil, nil)) }

// wantSame fails unless the map holds what the model does, in the same pages.
func wantSame(t *testing.T, what string, m *page.Map, o *model) {
	t.Helper()
	if got := m.Pages(); !slices.Equal(got, o.sizes()) {
		t.Fatalf("P5.2: %s: pages %v, not %v", what, got, o.sizes())
	}
	if got := all(m); !slices.Equal(got, o.entries()) {
		t.Fatalf("P5.1: %s: entries %q, not %q", what, got, o.entries())
	}
	if m.Len() != len(o.entries()) {
		t.Fatalf("P5.1: %s: Len %d, not %d", what, m.Len(), len(o.entries()))
	}
}

// wantPages fails unless the map's pages have so many entries.
func wantPages(t *testing.T, what string, m *page.Map, want ...int) {
	t.Helper()
	if got := m.Pages(); !slices.Equal(got, want) {
		t.Fatalf("P5.2: %s: pages %v, not %v", what, got, want)
	}
}

// numbered makes keys that stand as their numbers do, with room between them.
func numbered(i int) []byte { return []byte{byte(i >> 8), byte(i)} }

// filled makes a map of the keys that are numbered so, from the first one to the one ahead of end, set one by one.
func filled(first, end int) *page.Map {
	m := page.New()
	for i := first; i < end; i++ {
		m.Set(numbered(i), []byte{byte(i)})
	}
	return m
}

// take deletes the keys that are numbered so.
func take(t *testing.T, m *page.Map, numbers ...int) {
	t.Helper()
	for _, i := range numbers {
		if !m.Delete(numbered(i)) {
			t.Fatalf("P5.1: Delete of the key %d found nothing", i)
		}
	}
}

// between tells the numbers from first to last, rising or falling.
func between(first, last int) []int {
	var out []int
	for i := min(first, last); i <= max(first, last); i++ {
		out = append(out, i)
	}
	if first > last {
		slices.Reverse(out)
	}
	return out
}

// drawn draws bytes of few kinds, so that many begin alike and meet again.
func drawn(r *rand.Rand, most int) []byte {
	b := make([]byte, r.Intn(most+1))
	for i := range b {
		b[i] = []byte{0, 1, 'a', 127, 128, 255}[r.Intn(6)]
	}
	return b
}

// spoil writes over a list, and over the room behind it.
func spoil[T any](l []T, x T) {
	l = l[:cap(l)]
	for i := range l {
		l[i] = x
	}
}

// roomy gives a list room behind its end, with something in it, as a caller's longer list has.
func roomy(l []byte) []byte { return append(slices.Clone(l), 44, 44, 44)[:len(l)] }
