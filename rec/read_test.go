package rec_test

import (
	"bytes"
	"math/rand"
	"testing"

	"glean/api"
	"glean/rec"
)

// P8.2: what Put lays is read, and nothing that is shorter or longer.
func TestReadNearRecords(t *testing.T) {
	r := rand.New(rand.NewSource(83))
	for _, k := range kinds() {
		for range 60 {
			b := k.put(k.drawn(r, true))
			if !wantRead(t, k, b) {
				t.Fatalf("P8.2: %s(% x) is no record", k.name, b)
			}
			for n := range len(b) {
				wantRead(t, k, b[:n])
				wantRead(t, k, b[n:])
			}
			for _, more := range []string{"\x00", "\x01", "\xff", "\x00\x00\x00\x00\x00\x00\x00\x00"} {
				if wantRead(t, k, append(bytes.Clone(b), more...)) {
					t.Fatalf("P8.2: %s: % x with % x behind it is a record", k.name, b, more)
				}
			}
		}
	}
}

// P8.2: every byte at every place of a record: numbers take all, counts, first digits and truths not.
func TestReadEveryByte(t *testing.T) {
	r := rand.New(rand.NewSource(84))
	refused := 0
	for _, k := range kinds() {
		for range 3 {
			b := k.put(k.drawn(r, false))
			for at := range min(len(b), 120) {
				for c := range 256 {
					other := bytes.Clone(b)
					other[at] = byte(c)
					if !wantRead(t, k, other) {
						refused++
					}
				}
			}
		}
	}
	if refused == 0 {
		t.Error("P8.2: nothing was refused")
	}
}

// P8.2: bytes of each length, of noughts, of ones, and drawn ones with small counts.
func TestReadAnyBytes(t *testing.T) {
	r := rand.New(rand.NewSource(85))
	for _, k := range kinds() {
		taken := 0
		for n := range 400 {
			for _, fill := range []byte{0, 1, 2, 0x7F, 0xFF} {
				wantRead(t, k, bytes.Repeat([]byte{fill}, n))
			}
		}
		for range 20000 {
			b := make([]byte, r.Intn(100))
			for i := range b {
				b[i] = byte(r.Intn(3))
			}
			if wantRead(t, k, b) {
				taken++
			}
		}
		wantRead(t, k, nil)
		wantRead(t, k, []byte{})
		wantRead(t, k, make([]byte, 1<<20))
		if taken == 0 {
			t.Errorf("P8.2: %s: none of the draws is a record", k.name)
		}
	}
}

// P8.2: by hand: what nothing lays.
func TestReadRefused(t *testing.T) {
	val := eights(1, 2) + "\x01\x03\x01" + eights(4) + "\x00" + eights(5) + "\x01\x06\x01\x07\x01\x08"
	for _, b := range []string{
		"", val[:len(val)-1], val + "\x00",
		eights(1, 2) + "\x01\x03\x02" + eights(4) + "\x00" + eights(5) + "\x01\x06\x01\x07\x01\x08",
		eights(1, 2) + "\x01\x03\xff" + eights(4) + "\x00" + eights(5) + "\x01\x06\x01\x07\x01\x08",
		eights(1, 2) + "\x01\x03\x01" + eights(4) + "\x02" + eights(5) + "\x01\x06\x01\x07\x01\x08",
		eights(1, 2) + "\x01\x00\x01" + eights(4) + "\x00" + eights(5) + "\x01\x06\x01\x07\x01\x08",
		eights(1, 2) + "\x02\x00\x03\x01" + eights(4) + "\x00" + eights(5) + "\x01\x06\x01\x07\x01\x08",
		eights(1, 2) + "\x01\x03\x01" + eights(4) + "\x00" + eights(5) + "\x01\x06\x01\x07\x02\x00\x08",
		eights(1, 2) + "\x01\x03\x01" + eights(4) + "\x00" + eights(5) + "\x01\x06\x01\x07\x02\x08",
	} {
		if got, e := rec.Val([]byte(b)); e != api.ErrRecForm || !same(got, api.Validator{}) {
			t.Errorf("P8.2: Val(% x): %v, %v", b, got, e)
		}
	}
	for _, b := range []string{"", "\x01", "\x01\x00", "\x02\x00\x01", "\x02\x01", "\x01\x01\x00", "\x00\x00", "\xff\x01"} {
		if got, e := rec.Pool([]byte(b)); e != api.ErrRecForm || len(got.Raw) > 0 {
			t.Errorf("P8.2: Pool(% x): %v, %v", b, got, e)
		}
	}
	for _, b := range []string{"", eights(7)[1:], eights(7) + "\x00", eights(7, 7)} {
		if got, e := rec.Number([]byte(b)); e != api.ErrRecForm || got != 0 {
			t.Errorf("P8.2: Number(% x): %v, %v", b, got, e)
		}
	}
	if got, e := rec.Account(append(rec.PutAccount(api.Account{Coins: 1}), 0)); e != api.ErrRecForm || got != (api.Account{}) {
		t.Errorf("P8.2: an account with a byte more: %v, %v", got, e)
	}
}

// P8.2: by hand: a record with all its fields.
func TestReadByHand(t *testing.T) {
	b := eights(1, 2) + "\x01\x03\x01" + eights(4) + "\x00" + eights(5) + "\x00\x09\x07" + eights(6) + "\x01\x08"
	want := api.Validator{Rate: 1, Tokens: 2, Shares: one(3), Jailed: true, Until: 4, Period: 5, Outstanding: api.Dec{Raw: api.Nat{6, 7}}, Commission: one(8)}
	if got, e := rec.Val([]byte(b)); e != api.OK || !same(got, want) {
		t.Errorf("P8.2: Val: %v, %v, not %v", got, e, want)
	}
	move := api.Move{Del: 1, Src: 2, Dst: 3, Height: 4, Due: 5, Initial: 6, Shares: longDec(255, 0xFF)}
	if got, e := rec.Move([]byte(eights(1, 2, 3, 4, 5, 6) + string(bytes.Repeat([]byte{255}, 256)))); e != api.OK || !same(got, move) {
		t.Errorf("P8.2: Move: %v, %v, not %v", got, e, move)
	}
}
