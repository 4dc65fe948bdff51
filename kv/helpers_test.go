package kv_test

import (
	"iter"
	"maps"
	"math/rand"
	"slices"
	"strings"
	"testing"

	"glean/api"
	"glean/kv"
)

// pair: a key and its value, as texts, so that a model's can't be changed from outside.
type pair struct{ key, value string }

// model: a store that does what the chapter says in the plainest way: each journal keeps all that lay when it began.
type model struct {
	lies  map[string]string
	begun []map[string]string
	ops   int
}

func newModel() *model { return &model{lies: map[string]string{}} }

// entries tells all of them, rising.
func (o *model) entries() []pair {
	var out []pair
	for _, k := range slices.Sorted(maps.Keys(o.lies)) {
		out = append(out, pair{k, o.lies[k]})
	}
	return out
}

// chosen tells those of a kind, rising.
func (o *model) chosen(which func(key string) bool) []pair {
	var out []pair
	for _, e := range o.entries() {
		if which(e.key) {
			out = append(out, e)
		}
	}
	return out
}

// between tells the entries within bounds, rising.
func (o *model) between(from, to string) []pair {
	return o.chosen(func(key string) bool { return key >= from && (to == "" || key < to) })
}

// beginning tells the entries whose keys begin so, rising.
func (o *model) beginning(p string) []pair {
	return o.chosen(func(key string) bool { return strings.HasPrefix(key, p) })
}

// set does and answers what Set must.
func (o *model) set(k, v string) api.Errno {
	o.ops++
	if len(k) < 1 || len(k) > 64 {
		return api.ErrKVKey
	}
	if len(v) > 4096 {
		return api.ErrKVValue
	}
	o.lies[k] = v
	return api.OK
}

// remove does and answers what Delete must.
func (o *model) remove(k string) bool {
	o.ops++
	_, there := o.lies[k]
	delete(o.lies, k)
	return there
}

// begin does and answers what Begin must.
func (o *model) begin() api.Errno {
	if len(o.begun) == 16 {
		return api.ErrKVDepth
	}
	o.begun = append(o.begun, maps.Clone(o.lies))
	return api.OK
}

// end does and answers what Commit and Rollback must.
func (o *model) end(back bool) api.Errno {
	last := len(o.begun) - 1
	if last < 0 {
		return api.ErrKVDepth
	}
	if back {
		o.lies = o.begun[last]
	}
	o.begun = o.begun[:last]
	return api.OK
}

// copied makes the model of a copy.
func (o *model) copied() *model { return &model{lies: maps.Clone(o.lies)} }

// gone goes through a walk to its end.
func gone(walk iter.Seq2[[]byte, []byte]) []pair {
	var out []pair
	for k, v := range walk {
		out = append(out, pair{string(k), string(v)})
	}
	return out
}

// all tells what a store holds, uncounted.
func all(s *kv.Store) []pair {
	var out []pair
	for _, p := range s.Dump() {
		out = append(out, pair{string(p.Key), string(p.Value)})
	}
	return out
}

// wantSame fails unless the store holds what the model does, as deep, with as many operations.
func wantSame(t *testing.T, what string, s *kv.Store, o *model) {
	t.Helper()
	if got := all(s); !slices.Equal(got, o.entries()) {
		t.Fatalf("%s: entries %q, not %q", what, got, o.entries())
	}
	if s.Depth() != len(o.begun) {
		t.Fatalf("P6.2: %s: Depth %d, not %d", what, s.Depth(), len(o.begun))
	}
	if s.Ops() != o.ops {
		t.Fatalf("P6.4: %s: Ops %d, not %d", what, s.Ops(), o.ops)
	}
}

// wantLies fails unless exactly these lie: keys and their values in turn, rising.
func wantLies(t *testing.T, what string, s *kv.Store, texts ...string) {
	t.Helper()
	var want []pair
	for i := 0; i < len(texts); i += 2 {
		want = append(want, pair{texts[i], texts[i+1]})
	}
	if got := all(s); !slices.Equal(got, want) {
		t.Fatalf("%s: entries %q, not %q", what, got, want)
	}
}

// wantErr fails unless a call answered so.
func wantErr(t *testing.T, what string, got, want api.Errno) {
	t.Helper()
	if got != want {
		t.Fatalf("%s: %d, not %d", what, got, want)
	}
}

// lay sets a key, and fails unless that is taken.
func lay(t *testing.T, s *kv.Store, k, v string) {
	t.Helper()
	wantErr(t, "P6.1: Set of a key", s.Set([]byte(k), []byte(v)), api.OK)
}

// take deletes a key, and fails unless it was there.
func take(t *testing.T, s *kv.Store, k string) {
	t.Helper()
	if !s.Delete([]byte(k)) {
		t.Fatalf("P6.1: Delete(%q) found nothing", k)
	}
}

// begin begins so many journals.
func begin(t *testing.T, s *kv.Store, n int) {
	t.Helper()
	for range n {
		wantErr(t, "P6.2: Begin", s.Begin(), api.OK)
	}
}

// numbered makes keys that stand as their numbers do.
func numbered(i int) []byte { return []byte{byte(i >> 8), byte(i)} }

// filled makes a store of so many numbered keys.
func filled(n int) *kv.Store {
	s := kv.New()
	for i := range n {
		s.Set(numbered(i), []byte{byte(i), 5})
	}
	return s
}

// drawn draws bytes of few kinds, so that many begin alike and meet again.
func drawn(r *rand.Rand, most int) []byte {
	b := make([]byte, r.Intn(most+1))
	for i := range b {
		b[i] = []byte{0, 1, 'a', 127, 128, 254, 255}[r.Intn(7)]
	}
	return b
}

// spoil writes over a list, and over the room behind it.
func spoil(l []byte, x byte) {
	l = l[:cap(l)]
	for i := range l {
		l[i] = x
	}
}

// roomy gives a list room behind its end, with something in it, as a caller's longer list has.
func roomy(l []byte) []byte { return append(slices.Clone(l), 44, 44, 44)[:len(l)] }
