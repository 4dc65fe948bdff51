package genesis_test

import (
	"bytes"
	"math/rand"
	"strings"
	"testing"

	"glean/api"
	"glean/genesis"
)

// P21.1: the chapter's example, byte by byte.
func TestEncodeByHand(t *testing.T) {
	want := "GLN1" +
		"\x00\x00\x00\x00\x00\x00\x00\x02" + "\x00\x00\x00\x00\x00\x00\x00\x09" + "\x00\x00\x00\x00\x00\x00\x00\x03" +
		strings.Repeat("\x00", 40) + "\x00\x00\x00\x00\x00\x00\x00\x01" + "\x00\x00\x00\x00\x00\x00\x00\x10" +
		"\x00\x00\x00\x01" + "\x00\x00\x00\x00\x00\x00\x00\x10" + "\x00\x00\x00\x00\x00\x00\x00\x64" +
		"\x00\x00\x00\x01" + "\x00\x00\x00\x00\x00\x00\x00\x10" + "\x00\x00\x00\x00\x00\x00\x01\xF4" + "\x00\x00\x00\x00\x00\x00\x00\x0A"
	if got := genesis.Encode(first()); string(got) != want {
		t.Errorf("P21.1: % x, not % x", got, want)
	}
	nothing := "\x47\x4C\x4E\x31" + strings.Repeat("\x00", 88)
	for _, g := range []api.Genesis{{}, {Accounts: []api.Purse{}, Vals: []api.Founder{}}} {
		if got := genesis.Encode(g); string(got) != nothing {
			t.Errorf("P21.1: of nothing: % x", got)
		}
	}
}

// P21.1: each param stands at its place, whatever it is.
func TestParamsInOrder(t *testing.T) {
	p := api.Params{Max: 1, Unbond: 2, Entries: 3, Tax: 4, Double: 5, Down: 6, Jail: 7, Age: 8, Fee: 9, Keeper: 10}
	got := genesis.Encode(api.Genesis{Params: p})
	for i := range 10 {
		if !bytes.Equal(got[4+8*i:12+8*i], add(nil, uint64(i)+1)) {
			t.Errorf("P21.1: the %d-th param: % x", i, got)
		}
	}
	for i := range 10 {
		for _, x := range numbers() {
			var g api.Genesis
			*fieldsOf(&g.Params)[i] = x
			wantEncode(t, g)
		}
	}
}

// P21.1: each field of an account and of a validator stands at its place.
func TestPartsInOrder(t *testing.T) {
	for _, x := range numbers() {
		wantEncode(t, api.Genesis{Accounts: []api.Purse{{Id: x}, {Coins: x}, {Id: x, Coins: 7}}})
		wantEncode(t, api.Genesis{Vals: []api.Founder{{Op: x}, {Rate: x}, {Tokens: x}, {Op: 5, Rate: 6, Tokens: x}}})
	}
}

// P21.1: also what no chain begins with has bytes: more than the limits, ids that don't rise, drawn numbers.
func TestEncodeOfAnything(t *testing.T) {
	for _, n := range []int{0, 1, 63, 64, 65, 255, 256, 257, 1000, 70000} {
		wantEncode(t, many(n, 0))
		wantEncode(t, many(0, n))
		wantEncode(t, many(n, n))
	}
	wantEncode(t, api.Genesis{Accounts: []api.Purse{{Id: 20, Coins: 1}, {Id: 18}, {}, {Id: 20, Coins: top}}, Vals: []api.Founder{{}, {Op: 3, Rate: top}, {}}})
	r := rand.New(rand.NewSource(211))
	for range 2000 {
		wantEncode(t, drawn(r, 1<<r.Intn(9), 1<<r.Intn(8)))
	}
}

// wantEncode fails unless Encode tells of a genesis what the chapter does.
func wantEncode(t *testing.T, g api.Genesis) {
	t.Helper()
	if got, want := genesis.Encode(g), spelt(g); !bytes.Equal(got, want) {
		t.Fatalf("P21.1: Encode(%+v): % x, not % x", g, got, want)
	}
}
