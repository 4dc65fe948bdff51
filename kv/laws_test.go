package kv_test

import (
	"bytes"
	"math/rand"
	"slices"
	"testing"

	"glean/api"
	"glean/kv"
)

// change does one thing with the store and with the model, and fails unless they answer alike.
func change(t *testing.T, r *rand.Rand, s *kv.Store, o *model, k []byte) {
	t.Helper()
	switch r.Intn(10) {
	case 0, 1, 2, 3:
		v := drawn(r, 3)
		wantErr(t, "P6.1: Set", s.Set(k, v), o.set(string(k), string(v)))
	case 4, 5, 6:
		if got := s.Delete(k); got != o.remove(string(k)) {
			t.Fatalf("P6.1: Delete(%q): %t", k, got)
		}
	case 7:
		wantErr(t, "P6.2: Begin", s.Begin(), o.begin())
	case 8:
		wantErr(t, "P6.2: Commit", s.Commit(), o.end(false))
	case 9:
		wantErr(t, "P6.2: Rollback", s.Rollback(), o.end(true))
	}
}

// ask asks the store and the model, and fails unless they answer alike.
func ask(t *testing.T, s *kv.Store, o *model, from, to []byte) {
	t.Helper()
	value, there := o.lies[string(from)]
	if v, ok := s.Get(from); ok != there || string(v) != value || !ok && v != nil {
		t.Fatalf("P6.1: Get(%q): %q, %t, not %q, %t", from, v, ok, value, there)
	}
	if s.Has(from) != there {
		t.Fatalf("P6.1: Has(%q): %t", from, !there)
	}
	want := o.between(string(from), string(to))
	if got := gone(s.Walk(from, to)); !slices.Equal(got, want) {
		t.Fatalf("P6.3: Walk(%q, %q): %q, not %q", from, to, got, want)
	}
	o.ops += 3 + len(want)
	want = o.beginning(string(to))
	if got := gone(s.Prefix(to)); !slices.Equal(got, want) {
		t.Fatalf("P6.6: Prefix(%q): %q, not %q", to, got, want)
	}
	o.ops += 1 + len(want)
}

// P6.1 to P6.6: drawn steps on stores and their copies, beside models that keep all that lay at each Begin.
func TestDrawnSteps(t *testing.T) {
	for seed := range int64(60) {
		r := rand.New(rand.NewSource(seed))
		most := 1 + r.Intn(4)
		stores, models := []*kv.Store{kv.New()}, []*model{newModel()}
		for range 500 {
			n := r.Intn(len(stores))
			change(t, r, stores[n], models[n], drawn(r, most))
			if r.Intn(4) == 0 {
				ask(t, stores[n], models[n], drawn(r, most), drawn(r, most))
			}
			if r.Intn(150) == 0 {
				stores, models = append(stores, stores[n].Copy()), append(models, models[n].copied())
			}
			wantSame(t, "P6.5: drawn steps", stores[n], models[n])
		}
		for n := range stores {
			for stores[n].Depth() > 0 {
				back := r.Intn(2) == 0
				if back {
					wantErr(t, "P6.2: Rollback", stores[n].Rollback(), api.OK)
				} else {
					wantErr(t, "P6.2: Commit", stores[n].Commit(), api.OK)
				}
				models[n].end(back)
				wantSame(t, "P6.5: to the end", stores[n], models[n])
			}
		}
	}
}

// P6.5: whatever is done in a journal, by drawn steps and journals within, behind Rollback all lies as at its Begin.
func TestDrawnStepsBack(t *testing.T) {
	for seed := range int64(60) {
		r := rand.New(rand.NewSource(seed))
		s, o := kv.New(), newModel()
		for range 100 {
			k, v := numbered(r.Intn(200)), drawn(r, 3)
			s.Set(k, v)
			o.set(string(k), string(v))
		}
		before := all(s)
		begin(t, s, 1)
		o.begin()
		for range 400 {
			if s.Depth() == 1 {
				begin(t, s, 1)
				o.begin()
			}
			change(t, r, s, o, numbered(r.Intn(200)))
		}
		for s.Depth() > 1 {
			wantErr(t, "P6.2: Commit", s.Commit(), o.end(false))
		}
		wantSame(t, "P6.5: behind Commit", s, o)
		wantErr(t, "P6.2: Rollback", s.Rollback(), api.OK)
		if got := all(s); !slices.Equal(got, before) {
			t.Fatalf("P6.5: behind Rollback: %q, not %q", got, before)
		}
	}
}

// P6.6: Prefix is what Walk gives of the entries that begin so, for drawn keys and beginnings.
func TestDrawnPrefixes(t *testing.T) {
	r := rand.New(rand.NewSource(6))
	for range 300 {
		s := kv.New()
		for range r.Intn(80) {
			k := drawn(r, 4)
			if r.Intn(2) == 0 {
				r.Read(k)
			}
			s.Set(k, drawn(r, 2))
		}
		for range 20 {
			p := drawn(r, 3)
			var want []pair
			for k, v := range s.Walk(nil, nil) {
				if bytes.HasPrefix(k, p) {
					want = append(want, pair{string(k), string(v)})
				}
			}
			if got := gone(s.Prefix(p)); !slices.Equal(got, want) {
				t.Fatalf("P6.6: Prefix(%q): %q, not %q", p, got, want)
			}
		}
	}
}
