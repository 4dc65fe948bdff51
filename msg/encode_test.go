package msg_test

import (
	"bytes"
	"math"
	"testing"

	"glean/api"
	"glean/msg"
)

// P17.2: the chapter's examples, and an item of each length, by hand.
func TestEncodeByHand(t *testing.T) {
	head := "\x54" + "\x00\x00\x00\x00\x00\x00\x00\x11" + "\x00\x00\x00\x00\x00\x00\x00\x02" + "\x00\x00\x00\x00\x00\x00\x00\x05"
	for _, c := range []struct {
		i    api.Item
		want string
	}{
		{tx(17, 2, 5, api.Msg{Kind: api.MsgWithdraw, A: 16}), head + "\x06" + "\x00\x00\x00\x00\x00\x00\x00\x10"},
		{tx(17, 2, 5, api.Msg{Kind: api.MsgUnjail}), head + "\x08"},
		{tx(17, 2, 5, api.Msg{Kind: api.MsgFund, N: 258}), head + "\x09" + "\x00\x00\x00\x00\x00\x00\x01\x02"},
		{tx(17, 2, 5, api.Msg{Kind: api.MsgSend, A: 18, N: 3}), head + "\x01" + "\x00\x00\x00\x00\x00\x00\x00\x12" + "\x00\x00\x00\x00\x00\x00\x00\x03"},
		{tx(17, 2, 5, api.Msg{Kind: api.MsgRedelegate, A: 1, B: 2, N: 3}), head + "\x05" + "\x00\x00\x00\x00\x00\x00\x00\x01" + "\x00\x00\x00\x00\x00\x00\x00\x02" + "\x00\x00\x00\x00\x00\x00\x00\x03"},
		{fault(api.FaultDouble, 16, 9), "\x46\x01" + "\x00\x00\x00\x00\x00\x00\x00\x10" + "\x00\x00\x00\x00\x00\x00\x00\x09"},
		{fault(255, 0x0102030405060708, top), "\x46\xff" + "\x01\x02\x03\x04\x05\x06\x07\x08" + "\xff\xff\xff\xff\xff\xff\xff\xff"},
		{fault(0, 0, 0), "\x46\x00" + "\x00\x00\x00\x00\x00\x00\x00\x00" + "\x00\x00\x00\x00\x00\x00\x00\x00"},
	} {
		if got, e := msg.Encode(c.i); e != api.OK || string(got) != c.want {
			t.Errorf("P17.2: Encode(%+v): % x, %v, not % x", c.i, got, e, c.want)
		}
	}
}

// P17.2: how many bytes each kind has: a number that is 0 is laid like any other one.
func TestLengths(t *testing.T) {
	for kind, letters := range used() {
		if kind == 0 {
			continue
		}
		want := 26 + 8*len(letters)
		if b := encoded(t, tx(0, 0, 0, api.Msg{Kind: kind})); len(b) != want {
			t.Errorf("P17.2: an empty message of kind %d: %d bytes, not %d", kind, len(b), want)
		}
		if b := encoded(t, tx(top, top, top, full(kind))); len(b) != want {
			t.Errorf("P17.2: a full message of kind %d: %d bytes, not %d", kind, len(b), want)
		}
	}
	if b := encoded(t, fault(1, 2, 3)); len(b) != 18 {
		t.Errorf("P17.2: a fault: %d bytes", len(b))
	}
}

// P17.2: items of all kinds, their numbers at the edges.
func TestEncode(t *testing.T) {
	for _, i := range items() {
		if _, ok := spelt(i); !ok {
			t.Fatalf("the test's own item isn't one: %+v", i)
		}
		wantEncode(t, i)
	}
}

// P17.2: an item of no kind is refused, whatever its parts are.
func TestNoKindOfItem(t *testing.T) {
	for _, kind := range []int{0, 3, 4, 46, 54, 0x46, 0x54, 255, 256, 257, 258, -1, -2, -254, -255, 1<<32 + 1, 1<<32 + 2, math.MaxInt, math.MinInt} {
		for _, of := range []api.Item{{}, tx(17, 2, 5, full(api.MsgSend)), fault(1, 16, 9)} {
			of.Kind = kind
			wantRefused(t, of)
		}
	}
}

// P17.2: the part of the other kind is zero, each of its fields.
func TestTheOtherPart(t *testing.T) {
	for _, other := range []api.Fault{{Kind: 1}, {Kind: -1}, {Val: 1}, {Height: 1}, {Height: top}, {Kind: 2, Val: 16, Height: 9}} {
		for kind := 1; kind <= 10; kind++ {
			i := tx(17, 2, 5, full(kind))
			i.Fault = other
			wantRefused(t, i)
		}
	}
	for _, other := range []api.Tx{{Sender: 1}, {Seq: 1}, {Fee: 1}, {Fee: top}, {Msg: api.Msg{Kind: 1}}, {Msg: api.Msg{Kind: -1}}, {Msg: api.Msg{A: 1}}, {Msg: api.Msg{B: 1}}, {Msg: api.Msg{N: 1}}, {Sender: 17, Seq: 2, Fee: 5, Msg: full(6)}} {
		for _, kind := range []int{0, 1, 2, 255} {
			i := fault(kind, 16, 9)
			i.Tx = other
			wantRefused(t, i)
		}
	}
}

// P17.2: a message of no kind is refused, whatever its fields are.
func TestNoKindOfMessage(t *testing.T) {
	for _, kind := range noKinds() {
		for _, m := range []api.Msg{{}, {A: 1}, {B: 1}, {N: 1}, {A: 1, N: 1}, {A: 1, B: 1, N: 1}} {
			m.Kind = kind
			wantRefused(t, tx(17, 2, 5, m))
			wantRefused(t, tx(0, 0, 0, m))
		}
	}
}

// P17.2: a field that a message's kind doesn't use is 0; one that it uses is anything.
func TestFieldsThatAreNotUsed(t *testing.T) {
	for kind := 1; kind <= 10; kind++ {
		for _, letter := range "ABN" {
			for _, x := range numbers() {
				for _, m := range []api.Msg{{Kind: kind}, full(kind)} {
					*field(&m, letter) = x
					wantEncode(t, tx(17, 2, 5, m))
				}
			}
		}
	}
	wantRefused(t, tx(17, 2, 5, api.Msg{Kind: api.MsgSend, A: 1, B: 1, N: 1}))
	wantRefused(t, tx(17, 2, 5, api.Msg{Kind: api.MsgWithdraw, A: 1, N: 1}))
	wantRefused(t, tx(17, 2, 5, api.Msg{Kind: api.MsgWithdraw, A: 1, B: 1 << 63}))
	wantRefused(t, tx(17, 2, 5, api.Msg{Kind: api.MsgFund, A: 1 << 32, N: 1}))
	wantRefused(t, tx(17, 2, 5, api.Msg{Kind: api.MsgCommission, N: 1}))
	wantRefused(t, tx(17, 2, 5, api.Msg{Kind: api.MsgUnjail, A: 1}))
}

// P17.2: a fault's kind is 0 to 255, be there such a fault or not.
func TestKindsOfFaults(t *testing.T) {
	for kind := range 256 {
		b := encoded(t, fault(kind, 16, 9))
		if want := []byte{0x46, byte(kind)}; !bytes.HasPrefix(b, want) {
			t.Errorf("P17.2: a fault of kind %d: % x", kind, b)
		}
	}
	for _, kind := range []int{256, 257, 511, 512, 1 << 16, 1 << 32, 1<<32 + 1, -1, -2, -255, -256, math.MaxInt, math.MinInt} {
		wantRefused(t, fault(kind, 16, 9))
		wantRefused(t, fault(kind, 0, 0))
	}
}
