package msg_test

import (
	"bytes"
	"math/rand"
	"slices"
	"testing"

	"glean/api"
	"glean/msg"
)

// P17.3: the chapter's examples.
func TestDecodeByHand(t *testing.T) {
	b := []byte("\x54" + "\x00\x00\x00\x00\x00\x00\x00\x11" + "\x00\x00\x00\x00\x00\x00\x00\x02" + "\x00\x00\x00\x00\x00\x00\x00\x05" + "\x06" + "\x00\x00\x00\x00\x00\x00\x00\x10")
	want := tx(17, 2, 5, api.Msg{Kind: api.MsgWithdraw, A: 16})
	if got, e := msg.Decode(b); e != api.OK || got != want {
		t.Errorf("P17.3: a withdrawal: %+v, %v", got, e)
	}
	f := []byte("\x46\x02" + "\x00\x00\x00\x00\x00\x00\x00\x10" + "\x01\x02\x03\x04\x05\x06\x07\x08")
	if got, e := msg.Decode(f); e != api.OK || got != fault(api.FaultDown, 16, 0x0102030405060708) {
		t.Errorf("P17.3: a fault: %+v, %v", got, e)
	}
	for _, x := range [][]byte{append(b, 0), append(f, 0), append(b, 6), append(f, f...)} {
		if got, e := msg.Decode(x); e != api.ErrMsgForm || got != (api.Item{}) {
			t.Errorf("P17.3: more bytes: %+v, %v", got, e)
		}
	}
}

// P17.3: bytes of items of all kinds.
func TestDecode(t *testing.T) {
	for _, i := range items() {
		b, _ := spelt(i)
		if got, e := msg.Decode(b); e != api.OK || got != i {
			t.Fatalf("P17.3: Decode(% x): %+v, %v, not %+v", b, got, e, i)
		}
	}
}

// P17.3: what ends too early is refused at each place, and what goes on behind an item, by any byte, up to MaxItem.
func TestOtherLengths(t *testing.T) {
	all := []api.Item{fault(1, 16, 9), fault(0, 0, 0)}
	for kind := 1; kind <= 10; kind++ {
		all = append(all, tx(17, 2, 5, full(kind)), tx(0, 0, 0, api.Msg{Kind: kind}))
	}
	for _, i := range all {
		b := encoded(t, i)
		for n := range b {
			if wantDecode(t, b[:n:n]) {
				t.Fatalf("P17.3: %d bytes of %d are an item: % x", n, len(b), b)
			}
		}
		for _, more := range []int{1, 2, 7, 8, 9, 16, 24, api.MaxItem - len(b)} {
			for _, x := range []byte{0, 1, 6, 0x46, 0x54, 0xFF} {
				if wantDecode(t, append(bytes.Clone(b), bytes.Repeat([]byte{x}, more)...)) {
					t.Fatalf("P17.3: %d bytes behind an item, and it is one", more)
				}
			}
		}
	}
}

// P17.3: of more than MaxItem bytes it is ErrMsgLong, whatever they are; of MaxItem it isn't.
func TestTooLong(t *testing.T) {
	heads := [][]byte{{}, {0}, {0x47}, encoded(t, fault(1, 16, 9)), encoded(t, tx(17, 2, 5, full(api.MsgRedelegate)))}
	for _, head := range heads {
		for _, n := range []int{api.MaxItem - 1, api.MaxItem, api.MaxItem + 1, api.MaxItem + 2, 2 * api.MaxItem, 1 << 16, 1 << 20} {
			b := make([]byte, n)
			copy(b, head)
			want := api.ErrMsgForm
			if n > 1024 {
				want = api.ErrMsgLong
			}
			if got, e := msg.Decode(b); e != want || got != (api.Item{}) {
				t.Errorf("P17.3: %d bytes: %+v, %v, not %v", n, got, e, want)
			}
		}
	}
}

// P17.3: the first byte is one of two; of no bytes there is no item.
func TestFirstBytes(t *testing.T) {
	for _, b := range [][]byte{nil, {}, make([]byte, 18), make([]byte, 34), {0x54}, {0x46}} {
		if wantDecode(t, b) {
			t.Errorf("P17.3: % x is an item", b)
		}
	}
	for _, i := range []api.Item{fault(6, 16, 9), tx(17, 2, 5, full(6)), tx(17, 2, 5, full(5))} {
		b := encoded(t, i)
		first := b[0]
		for x := range 256 {
			b[0] = byte(x)
			if wantDecode(t, b) != (byte(x) == first) {
				t.Errorf("P17.3: % x", b)
			}
		}
	}
}

// P17.3: a message's kind is one that there is, and has as many bytes behind it as it uses.
func TestKindsOfMessages(t *testing.T) {
	head := encoded(t, tx(17, 2, 5, api.Msg{Kind: api.MsgUnjail}))[:25]
	for kind := range 256 {
		taken := 0
		for n := range 34 {
			b := append(append(slices.Clone(head), byte(kind)), bytes.Repeat([]byte{7}, n)...)
			if wantDecode(t, b) {
				taken++
			}
		}
		if (taken == 1) != isKind(kind) || taken > 1 {
			t.Errorf("P17.3: %d items of kind %d", taken, kind)
		}
	}
}

// P17.3: bytes that are near to an item's, and bytes that are near to nothing.
func TestDecodeOfDrawnBytes(t *testing.T) {
	r := rand.New(rand.NewSource(173))
	taken, refused := 0, 0
	for k := range 8000 {
		b := make([]byte, r.Intn(64))
		r.Read(b)
		if k%2 == 0 {
			b = encoded(t, drawn(r))
			b[r.Intn(len(b))] = byte(r.Intn(64))
		}
		if k%8 == 0 {
			b = b[:r.Intn(len(b)+1)]
		}
		if wantDecode(t, b) {
			taken++
		} else {
			refused++
		}
	}
	if taken < 100 || refused < 100 {
		t.Errorf("P17.3: %d were taken, %d refused", taken, refused)
	}
}
