package page_test

import (
	"bytes"
	"math/rand"
	"slices"
	"sync"
	"testing"

	"glean/page"
)

// P5.5: what was handed in isn't changed, and may be changed behind the call.
func TestWhatIsHandedIn(t *testing.T) {
	m, o := page.New(), &model{}
	for i := range 200 {
		k, v := roomy(numbered(i*37%200)), roomy([]byte{byte(i), 1, 2})
		o.set(string(k), string(v))
		before, valueBefore := bytes.Clone(k[:cap(k)]), bytes.Clone(v[:cap(v)])
		m.Set(k, v)
		m.Get(k)
		gone(m.Walk(k, v))
		gone(m.Back(v, k))
		if !bytes.Equal(k[:cap(k)], before) || !bytes.Equal(v[:cap(v)], valueBefore) {
			t.Fatalf("P5.5: what was handed in was changed: %v, %v", k[:cap(k)], v[:cap(v)])
		}
		spoil(k, 77)
		spoil(v, 78)
		wantSame(t, "P5.5: a key and a value were changed", m, o)
	}
	for i := range 200 {
		v := roomy([]byte{byte(i)})
		o.set(string(numbered(i)), string(v))
		m.Set(numbered(i), v)
		spoil(v, 77)
	}
	wantSame(t, "P5.5: values of keys that were there were changed", m, o)
	for i := range 150 {
		k := roomy(numbered(i))
		o.remove(string(k))
		before := bytes.Clone(k[:cap(k)])
		m.Delete(k)
		if !bytes.Equal(k[:cap(k)], before) {
			t.Fatalf("P5.5: Delete changed its key: %v", k[:cap(k)])
		}
		spoil(k, 77)
		wantSame(t, "P5.5: a deleted key was changed", m, o)
	}
}

// P5.5: a walk's bounds may be changed behind the call, ahead of the first go and between two.
func TestBoundsAreKeptApart(t *testing.T) {
	m := filled(0, 100)
	from, to := numbered(20), numbered(60)
	walk, back := m.Walk(from, to), m.Back(from, to)
	want := gone(m.Walk(numbered(20), numbered(60)))
	for range 2 {
		spoil(from, 0)
		spoil(to, 255)
		if !slices.Equal(gone(walk), want) || !slices.Equal(gone(back), turned(want)) {
			t.Fatalf("P5.5: a walk follows its bounds: %q", gone(walk))
		}
	}
	if len(want) != 40 {
		t.Errorf("P5.3: %d entries, not 40", len(want))
	}
}

// P5.5: what was handed out may be changed.
func TestWhatIsHandedOut(t *testing.T) {
	m, o := page.New(), &model{}
	for i := range 100 {
		o.set(string(numbered(i)), string([]byte{byte(i), 5}))
		m.Set(numbered(i), []byte{byte(i), 5})
	}
	first, _ := m.Get(numbered(50))
	second, _ := m.Get(numbered(50))
	spoil(first, 77)
	if !bytes.Equal(second, []byte{50, 5}) {
		t.Errorf("P5.5: two answers of Get share memory: %v", second)
	}
	spoil(second, 78)
	spoil(m.Pages(), 79)
	wantSame(t, "P5.5: answers of Get and Pages were changed", m, o)
	for name, walk := range both(m) {
		var kept [][]byte
		n := 0
		for k, v := range walk {
			spoil(k, byte(n))
			if len(v) != 2 || v[1] != 5 {
				t.Fatalf("P5.5: %s: a key and its value share memory: %v", name, v)
			}
			spoil(v, byte(n))
			kept = append(kept, k, v)
			n++
		}
		for i, b := range kept {
			if !bytes.Equal(b[:2], bytes.Repeat([]byte{byte(i / 2)}, 2)) {
				t.Fatalf("P5.5: %s: entries share memory", name)
			}
		}
		wantSame(t, "P5.5: what "+name+" gave was changed", m, o)
	}
}

// P5.5: an answer stays what it was, whatever is done with the map behind it.
func TestAnswersStay(t *testing.T) {
	m := filled(0, 40)
	v, _ := m.Get(numbered(3))
	sizes := m.Pages()
	m.Set(numbered(3), []byte{99})
	m.Delete(numbered(20))
	if !bytes.Equal(v, []byte{3}) || !slices.Equal(sizes, []int{16, 24}) {
		t.Errorf("P5.5: answers were changed: %v, %v", v, sizes)
	}
}

// P5.3: a copy has the same entries in the same pages, also where they came to lie by deleting.
func TestCopy(t *testing.T) {
	wantPages(t, "a copy of an empty map", page.New().Copy())
	m := filled(0, 200)
	take(t, m, between(3, 17)...)
	take(t, m, between(40, 90)...)
	c := m.Copy()
	wantPages(t, "a copy", c, m.Pages()...)
	if !slices.Equal(all(c), all(m)) || c.Len() != m.Len() {
		t.Errorf("P5.3: a copy's entries: %q, not %q", all(c), all(m))
	}
}

// P5.3: a map and its copies, and theirs, don't touch one another, whatever is done with either.
func TestCopiesApart(t *testing.T) {
	for seed := range int64(30) {
		r := rand.New(rand.NewSource(seed))
		draw := func() []byte { return numbered(r.Intn(150)) }
		maps, models := []*page.Map{page.New()}, []*model{{}}
		for i := range 400 {
			n := r.Intn(len(maps))
			step(t, r, maps[n], models[n], i/100%2 == 0, draw)
			if i%80 == 60 {
				o := &model{}
				for _, p := range models[n].pages {
					o.pages = append(o.pages, slices.Clone(p))
				}
				maps, models = append(maps, maps[n].Copy()), append(models, o)
			}
			if v, ok := maps[n].Get(draw()); ok {
				spoil(v, 77)
			}
		}
		for n := range maps {
			wantSame(t, "of several maps", maps[n], models[n])
		}
	}
}

// Maps and their copies are apart also where goroutines work with them at the same time, and one may be read by many.
func TestManyAtOnce(t *testing.T) {
	shared := filled(0, 300)
	want := all(shared)
	var group sync.WaitGroup
	for worker := range 8 {
		group.Go(func() {
			own := shared.Copy()
			for i := range 300 {
				if worker%2 == 0 {
					own.Delete(numbered(i))
				} else {
					own.Set(numbered(i), []byte("own"))
				}
				shared.Get(numbered(i))
			}
			if !slices.Equal(all(shared), want) || !slices.Equal(gone(shared.Back(nil, nil)), turned(want)) {
				t.Errorf("P5.3: a copy reaches its map")
			}
			if shared.Len() != 300 || len(shared.Pages()) == 0 {
				t.Errorf("P5.1: Len %d", shared.Len())
			}
		})
	}
	group.Wait()
}
