package page_test

import (
	"math/rand"
	"slices"
	"testing"

	"glean/api"
	"glean/page"
)

// wantLaws fails unless P5.4 holds.
func wantLaws(t *testing.T, m *page.Map) {
	t.Helper()
	sizes, sum := m.Pages(), 0
	for i, n := range sizes {
		sum += n
		if n < 1 || n > api.MaxPage {
			t.Fatalf("P5.4: a page of %d entries: %v", n, sizes)
		}
		if i > 0 && sizes[i-1]+n < 17 {
			t.Fatalf("P5.4: neighbours with %d entries together: %v", sizes[i-1]+n, sizes)
		}
	}
	if sum != m.Len() {
		t.Fatalf("P5.4: the pages sum to %d, Len is %d", sum, m.Len())
	}
}

// wantWalks fails unless walks within drawn bounds give what the model does.
func wantWalks(t *testing.T, m *page.Map, o *model, draw func() []byte) {
	t.Helper()
	from, to := draw(), draw()
	want := o.between(string(from), string(to))
	if got := gone(m.Walk(from, to)); !slices.Equal(got, want) {
		t.Fatalf("P5.3: Walk(%q, %q): %q, not %q", from, to, got, want)
	}
	if got := gone(m.Back(from, to)); !slices.Equal(got, turned(want)) {
		t.Fatalf("P5.3: Back(%q, %q): %q, not %q", from, to, got, turned(want))
	}
}

// step does one thing with the map and with the model, and fails unless they answer alike.
func step(t *testing.T, r *rand.Rand, m *page.Map, o *model, grow bool, draw func() []byte) {
	t.Helper()
	k := draw()
	if keys := o.entries(); len(keys) > 0 && r.Intn(2) == 0 {
		k = []byte(keys[r.Intn(len(keys))].key)
	}
	want, there := o.get(string(k))
	if v, ok := m.Get(k); ok != there || string(v) != want || !ok && v != nil {
		t.Fatalf("P5.1: Get(%q): %q, %t, not %q, %t", k, v, ok, want, there)
	}
	if grow && r.Intn(4) > 0 || !grow && r.Intn(4) == 0 {
		v := drawn(r, 3)
		if got := m.Set(k, v); got != o.set(string(k), string(v)) {
			t.Fatalf("P5.1: Set(%q): %t", k, got)
		}
		if got, ok := m.Get(k); !ok || string(got) != string(v) {
			t.Fatalf("P5.1: Get(%q) behind Set: %q, %t, not %q", k, got, ok, v)
		}
		return
	}
	if got := m.Delete(k); got != o.remove(string(k)) {
		t.Fatalf("P5.1: Delete(%q): %t", k, got)
	}
	if got, ok := m.Get(k); ok || got != nil {
		t.Fatalf("P5.1: Get(%q) behind Delete: %q, %t", k, got, ok)
	}
}

// live grows and shrinks a map beside its model, and looks at both all the time.
func live(t *testing.T, r *rand.Rand, steps int, draw func() []byte) {
	t.Helper()
	m, o := page.New(), &model{}
	for i := range steps {
		step(t, r, m, o, i/150%2 == 0, draw)
		wantLaws(t, m)
		wantSame(t, "by drawn steps", m, o)
		if i%3 == 0 {
			wantWalks(t, m, o, draw)
		}
		if r.Intn(40) == 0 {
			m = m.Copy()
			wantSame(t, "P5.3: a copy goes on", m, o)
		}
	}
	for _, e := range o.entries() {
		if !m.Delete([]byte(e.key)) || !o.remove(e.key) {
			t.Fatalf("P5.1: Delete(%q) found nothing", e.key)
		}
		wantLaws(t, m)
		wantSame(t, "to the end", m, o)
	}
	wantPages(t, "all is gone", m)
}

// P5.1 to P5.4: drawn steps, with keys of two bytes, and with keys of which many begin alike.
func TestDrawnSteps(t *testing.T) {
	for seed := range int64(12) {
		r := rand.New(rand.NewSource(seed))
		live(t, r, 900, func() []byte { return numbered(r.Intn(400)) })
		live(t, r, 900, func() []byte { return drawn(r, 4) })
	}
}

// P5.2, P5.4: keys come and go in orders that fill and empty pages one behind the other.
func TestSteadyOrders(t *testing.T) {
	rising, falling := between(0, 299), between(299, 0)
	var inward, strides []int
	for i := range 150 {
		inward = append(inward, i, 299-i)
	}
	for i := range 300 {
		strides = append(strides, i*77%300)
	}
	outward := slices.Clone(inward)
	slices.Reverse(outward)
	orders := [][]int{rising, falling, inward, outward, strides}
	for _, coming := range orders {
		for _, going := range orders {
			m, o := page.New(), &model{}
			for _, i := range coming {
				m.Set(numbered(i), nil)
				o.set(string(numbered(i)), "")
				wantLaws(t, m)
			}
			wantSame(t, "all have come", m, o)
			for _, i := range going {
				take(t, m, i)
				o.remove(string(numbered(i)))
				wantLaws(t, m)
				wantPages(t, "some have gone", m, o.sizes()...)
			}
			wantPages(t, "all have gone", m)
		}
	}
}
