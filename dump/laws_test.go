package dump_test

import (
	"bytes"
	"math/rand"
	"reflect"
	"slices"
	"testing"

	"glean/api"
	"glean/app"
	"glean/dump"
	"glean/keys"
	"glean/kv"
	"glean/sound"
)

// again tells what Import makes of Export of a store.
func again(t *testing.T, s *kv.Store) *kv.Store {
	t.Helper()
	b, e := dump.Export(s)
	if e != api.OK {
		t.Fatalf("P22.1: Export: %v", e)
	}
	other := wantTaken(t, "Export of a sound store", b, s.Dump())
	wantExport(t, "what Import took", other, b)
	return other
}

// withoutOps tells a report without what a program may have of its own.
func withoutOps(r api.Report) api.Report {
	r.Ops = 0
	for i := range r.Replies {
		r.Replies[i].Ops = 0
	}
	return r
}

// wantAlike fails unless two engines answer alike to a block, and what they leave is the same; it tells how many items were done.
func wantAlike(t *testing.T, one, two *app.Engine, items [][]byte) int {
	t.Helper()
	x, e := one.Block(items)
	y, f := two.Block(items)
	if e != api.OK || f != api.OK || !reflect.DeepEqual(withoutOps(x), withoutOps(y)) {
		t.Fatalf("P22.3: %+v, %v, not %+v, %v", y, f, x, e)
	}
	left, _ := dump.Export(one.Store())
	wantExport(t, "behind the same block", two.Store(), left)
	done := 0
	for _, reply := range x.Replies {
		if reply.Err == api.OK {
			done++
		}
	}
	return done
}

// P22.3: behind each block of a run its state comes back as it was, and an engine over it goes on alike.
func TestThereAndBack(t *testing.T) {
	r := rand.New(rand.NewSource(223))
	seen, done := map[int]int{}, 0
	for range 40 {
		one := drawnEngine(t, r)
		two := engine(t, again(t, one.Store()))
		for range 40 {
			s := one.Store()
			other := again(t, s)
			if r.Intn(8) == 0 {
				two = engine(t, other)
			}
			for _, p := range s.Dump() {
				k, _ := keys.Read(p.Key)
				seen[k.Kind]++
			}
			done += wantAlike(t, one, two, drawnItems(r, s))
		}
	}
	for kind := api.KeyParams; kind <= api.KeyCount; kind++ {
		if seen[kind] < 100 {
			t.Errorf("the drawn runs have too few keys of kind %d: %d", kind, seen[kind])
		}
	}
	if done < 1000 {
		t.Errorf("the drawn runs do too few items: %d", done)
	}
}

// P22.3: a state that was taken many times over goes on as the first one does.
func TestManyTimesOver(t *testing.T) {
	r := rand.New(rand.NewSource(224))
	one := engine(t, grown())
	two := engine(t, grown())
	for range 60 {
		two = engine(t, again(t, again(t, two.Store())))
		wantAlike(t, one, two, drawnItems(r, one.Store()))
	}
}

// P22.2, P22.3: whatever is changed of a state's bytes: what is taken is sound, has their entries, and is told by the same bytes; of what isn't, Rule tells what sound does.
func TestSpoiltStates(t *testing.T) {
	r := rand.New(rand.NewSource(225))
	told := map[int]int{}
	for range 150 {
		e := drawnEngine(t, r)
		for range r.Intn(12) {
			e.Block(drawnItems(r, e.Store()))
		}
		for range 25 {
			b := spelt(spoiltPairs(r, e.Store().Dump()))
			if r.Intn(4) == 0 {
				b[r.Intn(len(b))] ^= 1 << r.Intn(8)
			}
			told[wantRead(t, "a state that was changed", b)]++
			if s, e := dump.Import(b); e == api.OK {
				if rule := sound.Check(s); rule != 0 {
					t.Fatalf("P22.2: what was taken breaks rule %d", rule)
				}
				wantExport(t, "what was taken", s, b)
			}
			if t.Failed() {
				t.Fatalf("P22.2: of % x", b)
			}
		}
	}
	for rule := -1; rule <= 11; rule++ {
		if told[rule] < 3 && rule != 8 {
			t.Errorf("the drawn states are seldom of rule %d: %v", rule, told)
		}
	}
}

// spoiltPairs tells entries of which one was changed, or left out, or stands elsewhere; mostly they rise still.
func spoiltPairs(r *rand.Rand, all []api.Pair) []api.Pair {
	i := r.Intn(len(all))
	switch r.Intn(8) {
	case 0:
		return slices.Delete(all, i, i+1)
	case 1:
		j := r.Intn(len(all))
		all[i], all[j] = all[j], all[i]
		return all
	case 2:
		k := bytes.Clone(all[i].Key)
		k[len(k)-1]++
		return slices.Insert(all, i+1, api.Pair{Key: k, Value: all[i].Value})
	case 3:
		return all
	}
	if v := all[i].Value; len(v) > 0 {
		v[len(v)-1-r.Intn(min(len(v), 2))] ^= 1 << r.Intn(8)
	}
	return all
}
