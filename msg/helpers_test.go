package msg_test

import (
	"bytes"
	"encoding/binary"
	"math"
	"math/rand"
	"testing"

	"glean/api"
	"glean/msg"
)

const top = ^uint64(0)

// used tells the letters of the chapter's table, kind by kind; there is none at 0.
func used() []string {
	return []string{"", "AN", "AN", "AN", "AN", "ABN", "A", "", "", "N", "AN"}
}

// isKind tells whether a message has that kind, by none of the project's calls.
func isKind(kind int) bool { return kind >= 1 && kind <= 10 }

// noKinds tells numbers that aren't kinds of messages, such as those whose lowest byte is one's.
func noKinds() []int {
	return []int{0, 11, 12, 16, 127, 128, 255, 256, 257, 256 + 6, 256 + 10, 1 << 16, 1<<16 + 1, 1<<31 + 3, -1, -2, -246, -249, -255, -256, math.MaxInt, math.MinInt, math.MinInt + 1}
}

// numbers tells numbers at which a byte or its order could go wrong.
func numbers() []uint64 {
	return []uint64{0, 1, 2, 16, 127, 128, 255, 256, 258, 0x0102030405060708, 1 << 32, 1<<63 - 1, 1 << 63, top - 255, top - 1, top}
}

// field tells a message's field by its letter.
func field(m *api.Msg, letter rune) *uint64 {
	switch letter {
	case 'A':
		return &m.A
	case 'B':
		return &m.B
	}
	return &m.N
}

// spelt tells an item's bytes as the chapter says them, and whether it has any, by none of the project's calls.
func spelt(i api.Item) ([]byte, bool) {
	b := []byte{}
	switch {
	case i.Kind == 1 && i.Fault == api.Fault{} && isKind(i.Tx.Msg.Kind):
		b = append(b, 'T')
		for _, x := range []uint64{i.Tx.Sender, i.Tx.Seq, i.Tx.Fee} {
			b = binary.BigEndian.AppendUint64(b, x)
		}
		m := i.Tx.Msg
		b = append(b, byte(m.Kind))
		for _, letter := range used()[m.Kind] {
			x := field(&m, letter)
			b = binary.BigEndian.AppendUint64(b, *x)
			*x = 0
		}
		return b, m.A == 0 && m.B == 0 && m.N == 0
	case i.Kind == 2 && i.Tx == api.Tx{} && i.Fault.Kind >= 0 && i.Fault.Kind < 256:
		b = append(b, 'F', byte(i.Fault.Kind))
		b = binary.BigEndian.AppendUint64(b, i.Fault.Val)
		return binary.BigEndian.AppendUint64(b, i.Fault.Height), true
	}
	return nil, false
}

// numberAt tells the number at a place of bytes; 0, if they end ahead of it.
func numberAt(b []byte, at int) uint64 {
	if len(b) < at+8 {
		return 0
	}
	return binary.BigEndian.Uint64(b[at:])
}

// meant tells the item of bytes, and whether they are one's: it tries each kind at its places, and spells what it found.
func meant(b []byte) (api.Item, bool) {
	var tries []api.Item
	for kind := 1; kind <= 10; kind++ {
		m := api.Msg{Kind: kind}
		for at, letter := range used()[kind] {
			*field(&m, letter) = numberAt(b, 26+8*at)
		}
		tries = append(tries, api.Item{Kind: 1, Tx: api.Tx{Sender: numberAt(b, 1), Seq: numberAt(b, 9), Fee: numberAt(b, 17), Msg: m}})
	}
	for kind := range 256 {
		tries = append(tries, api.Item{Kind: 2, Fault: api.Fault{Kind: kind, Val: numberAt(b, 2), Height: numberAt(b, 10)}})
	}
	for _, i := range tries {
		if s, ok := spelt(i); ok && bytes.Equal(s, b) {
			return i, true
		}
	}
	return api.Item{}, false
}

// tx makes an item of a transaction.
func tx(sender, seq, fee uint64, m api.Msg) api.Item {
	return api.Item{Kind: api.ItemTx, Tx: api.Tx{Sender: sender, Seq: seq, Fee: fee, Msg: m}}
}

// fault makes an item of a fault.
func fault(kind int, val, height uint64) api.Item {
	return api.Item{Kind: api.ItemFault, Fault: api.Fault{Kind: kind, Val: val, Height: height}}
}

// full makes a message of a kind, with numbers in all fields that it uses.
func full(kind int) api.Msg {
	m := api.Msg{Kind: kind}
	for at, letter := range used()[kind] {
		*field(&m, letter) = 0x0102030405060708 + uint64(at)<<60
	}
	return m
}

// drawn draws an item that has bytes.
func drawn(r *rand.Rand) api.Item {
	number := func() uint64 { return r.Uint64() >> r.Intn(65) }
	if r.Intn(4) == 0 {
		return fault(r.Intn(256), number(), number())
	}
	m := api.Msg{Kind: 1 + r.Intn(10)}
	for _, letter := range used()[m.Kind] {
		*field(&m, letter) = number()
	}
	return tx(number(), number(), number(), m)
}

// items tells items of all kinds: empty ones, full ones, and drawn ones.
func items() []api.Item {
	r := rand.New(rand.NewSource(170))
	var all []api.Item
	for kind := 1; kind <= 10; kind++ {
		all = append(all, tx(0, 0, 0, api.Msg{Kind: kind}), tx(top, top-1, 1<<63, full(kind)))
		for _, letter := range used()[kind] {
			for _, x := range numbers() {
				m := api.Msg{Kind: kind}
				*field(&m, letter) = x
				all = append(all, tx(x, 0, 0, m), tx(0, x, 0, m), tx(0, 0, x, m))
			}
		}
	}
	for kind := range 256 {
		all = append(all, fault(kind, 0, 0), fault(kind, 16, top), fault(kind, top, 258))
	}
	for range 3000 {
		all = append(all, drawn(r))
	}
	return all
}

// encoded tells an item's bytes, and fails if it is refused.
func encoded(t *testing.T, i api.Item) []byte {
	t.Helper()
	b, e := msg.Encode(i)
	if e != api.OK {
		t.Fatalf("P17.2: Encode(%+v): %v", i, e)
	}
	return b
}

// wantEncode fails unless Encode tells of an item what the chapter does.
func wantEncode(t *testing.T, i api.Item) {
	t.Helper()
	want, ok := spelt(i)
	if !ok {
		wantRefused(t, i)
		return
	}
	if got, e := msg.Encode(i); e != api.OK || !bytes.Equal(got, want) {
		t.Fatalf("P17.2: Encode(%+v): % x, %v, not % x", i, got, e, want)
	}
}

// wantRefused fails unless Encode refuses an item, and tells nothing beside it.
func wantRefused(t *testing.T, i api.Item) {
	t.Helper()
	if got, e := msg.Encode(i); e != api.ErrMsgForm || len(got) > 0 {
		t.Fatalf("P17.2: Encode(%+v): % x, %v, not ErrMsgForm", i, got, e)
	}
}

// wantDecode fails unless Decode tells of bytes, of at most MaxItem, what the chapter does; it tells whether they are an item.
func wantDecode(t *testing.T, b []byte) bool {
	t.Helper()
	want, ok := meant(b)
	got, e := msg.Decode(b)
	if got != want || ok && e != api.OK || !ok && e != api.ErrMsgForm {
		t.Fatalf("P17.3: Decode(% x): %+v, %v, not %+v, %t", b, got, e, want, ok)
	}
	return ok
}

// roomy tells the same bytes, with room behind them that isn't empty.
func roomy(b []byte) []byte {
	return append(bytes.Clone(b), bytes.Repeat([]byte{0xA5}, 40)...)[:len(b)]
}

// spoil writes over bytes, and over the room behind them.
func spoil(b []byte) {
	b = b[:cap(b)]
	for i := range b {
		b[i] = 0xA5
	}
}
