package msg_test

import (
	"bytes"
	"math/rand"
	"slices"
	"sync"
	"testing"

	"glean/api"
	"glean/msg"
)

// P17.2: what Encode answers is new memory, the room behind it too.
func TestWhatEncodeAnswers(t *testing.T) {
	for _, i := range items() {
		first, second := encoded(t, i), encoded(t, i)
		want := bytes.Clone(second)
		spoil(first)
		if !bytes.Equal(second, want) || !bytes.Equal(encoded(t, i), want) {
			t.Fatalf("P17.2: two answers share memory: %+v", i)
		}
	}
}

// P17.3: what Decode is handed stays as it was, the room behind it too; what lies in that room isn't read.
func TestWhatDecodeIsHanded(t *testing.T) {
	for k, i := range items() {
		b, _ := spelt(i)
		b = roomy(b[:len(b)-k%2])
		before := bytes.Clone(b[:cap(b)])
		want, ok := meant(b)
		got, e := msg.Decode(b)
		if !bytes.Equal(b[:cap(b)], before) {
			t.Fatalf("P17.3: Decode changed what it was handed: % x", b[:cap(b)])
		}
		if got != want || (e == api.OK) != ok {
			t.Fatalf("P17.3: Decode(% x): %+v, %v", b, got, e)
		}
	}
}

// P17.4: calls at the same time answer as they do alone.
func TestAtTheSameTime(t *testing.T) {
	var all sync.WaitGroup
	failed := make([]bool, 8)
	for k := range failed {
		all.Go(func() {
			r := rand.New(rand.NewSource(int64(k)))
			for range 2000 {
				i := drawn(r)
				b, e := msg.Encode(i)
				want, _ := spelt(i)
				got, f := msg.Decode(b)
				failed[k] = failed[k] || e != api.OK || f != api.OK || got != i || !bytes.Equal(b, want)
			}
		})
	}
	all.Wait()
	if slices.Contains(failed, true) {
		t.Errorf("P17.4: what was told wasn't taken: %v", failed)
	}
}
