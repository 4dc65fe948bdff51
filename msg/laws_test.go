package msg_test

import (
	"bytes"
	"math/rand"
	"testing"

	"glean/api"
	"glean/msg"
)

// P17.4: an item comes back as it went.
func TestThereAndBack(t *testing.T) {
	for _, i := range items() {
		if got, e := msg.Decode(encoded(t, i)); e != api.OK || got != i {
			t.Fatalf("P17.4: Decode(Encode(%+v)): %+v, %v", i, got, e)
		}
	}
}

// P17.4: bytes that are taken are told again as they were.
func TestBackAndThere(t *testing.T) {
	r := rand.New(rand.NewSource(174))
	taken := 0
	for range 50000 {
		b := encoded(t, drawn(r))
		b[r.Intn(len(b))] = byte(r.Intn(256))
		i, e := msg.Decode(b)
		if e != api.OK {
			continue
		}
		taken++
		if got := encoded(t, i); !bytes.Equal(got, b) {
			t.Fatalf("P17.4: Encode(Decode(% x)): % x", b, got)
		}
	}
	if taken < 1000 {
		t.Errorf("P17.4: only %d were taken", taken)
	}
}

// P17.4: whatever item is handed in, either it is refused, or it comes back.
func TestItemsOfAnyParts(t *testing.T) {
	r := rand.New(rand.NewSource(175))
	number := func() uint64 { return r.Uint64() >> r.Intn(64) * uint64(r.Intn(4)/3) }
	taken := 0
	for range 50000 {
		i := tx(number(), number(), number(), api.Msg{Kind: r.Intn(14) - 1, A: number(), B: number(), N: number()})
		if r.Intn(8) == 0 {
			i = fault(r.Intn(300)-20, number(), number())
		}
		if r.Intn(8) == 0 {
			i.Fault.Val = number()
			i.Tx.Seq = number()
		}
		if r.Intn(16) == 0 {
			i.Kind = r.Intn(5) - 1
		}
		wantEncode(t, i)
		b, e := msg.Encode(i)
		if e != api.OK {
			continue
		}
		taken++
		if got, e := msg.Decode(b); e != api.OK || got != i {
			t.Fatalf("P17.4: Decode(Encode(%+v)): %+v, %v", i, got, e)
		}
	}
	if taken < 1000 {
		t.Errorf("P17.4: only %d were taken", taken)
	}
}

// P17.4: unlike items are unlike bytes, and no item's bytes are another one's beginning.
func TestUnlikeItems(t *testing.T) {
	of := map[string]api.Item{}
	for _, i := range items() {
		b := string(encoded(t, i))
		if other, there := of[b]; there && other != i {
			t.Fatalf("P17.4: %+v and %+v: % x", i, other, b)
		}
		of[b] = i
	}
	for b, i := range of {
		for n := range b {
			if other, there := of[b[:n]]; there {
				t.Fatalf("P17.4: %+v begins with %+v", i, other)
			}
		}
	}
}
