package rec_test

import (
	"bytes"
	"math/rand"
	"reflect"
	"strings"
	"testing"

	"glean/api"
	"glean/rec"
)

// one makes a Dec whose Raw is n.
func one(n uint64) api.Dec { return api.Dec{Raw: api.Nat{n}} }

// eights spells numbers, of eight bytes each and below 256.
func eights(numbers ...byte) string {
	var text strings.Builder
	for _, n := range numbers {
		text.WriteString("\x00\x00\x00\x00\x00\x00\x00" + string([]byte{n}))
	}
	return text.String()
}

// P8.1: the chapter's examples, and each kind, byte by byte, each field unlike the others.
func TestPutByHand(t *testing.T) {
	for _, c := range []struct {
		what string
		got  []byte
		want string
	}{
		{"PutCut", rec.PutCut(api.Cut{Before: 3, After: 2}), "\x00\x00\x00\x00\x00\x00\x00\x03\x00\x00\x00\x00\x00\x00\x00\x02"},
		{"PutPool of 0", rec.PutPool(api.Dec{}), "\x00"},
		{"PutPool", rec.PutPool(one(0x0102)), "\x02\x01\x02"},
		{"PutPool above 64 bits", rec.PutPool(api.Dec{Raw: api.Nat{5, 6}}), "\x09\x06" + eights(5)},
		{"PutAccount", rec.PutAccount(api.Account{Coins: 1}), eights(1, 0)},
		{"PutAccount", rec.PutAccount(api.Account{Coins: 0x0102030405060708, Seq: top}), "\x01\x02\x03\x04\x05\x06\x07\x08\xff\xff\xff\xff\xff\xff\xff\xff"},
		{"PutParams", rec.PutParams(api.Params{Max: 1, Unbond: 2, Entries: 3, Tax: 4, Double: 5, Down: 6, Jail: 7, Age: 8, Fee: 9, Keeper: 10}), eights(1, 2, 3, 4, 5, 6, 7, 8, 9, 10)},
		{"PutChain", rec.PutChain(api.Chain{Height: 4, Next: 9}), eights(4, 9)},
		{"PutVal", rec.PutVal(api.Validator{Rate: 1, Tokens: 2, Shares: one(3), Jailed: true, Until: 4, Period: 5, Current: one(6), Outstanding: one(7), Commission: one(8)}),
			eights(1, 2) + "\x01\x03\x01" + eights(4) + "\x00" + eights(5) + "\x01\x06\x01\x07\x01\x08"},
		{"PutVal", rec.PutVal(api.Validator{Rate: 9, Tokens: 8, Shares: one(256), Until: 7, Bonded: true, Period: 6, Outstanding: one(255), Commission: one(1)}),
			eights(9, 8) + "\x02\x01\x00\x00" + eights(7) + "\x01" + eights(6) + "\x00\x01\xff\x01\x01"},
		{"PutDelegation", rec.PutDelegation(api.Delegation{Shares: one(5), Period: 2, Stake: one(256)}), "\x01\x05" + eights(2) + "\x02\x01\x00"},
		{"PutHistory", rec.PutHistory(api.History{Ratio: one(258), Refs: 3}), "\x02\x01\x02" + eights(3)},
		{"PutUnbonding", rec.PutUnbonding(api.Unbonding{Del: 1, Val: 2, Height: 3, Due: 4, Initial: 5, Balance: 6}), eights(1, 2, 3, 4, 5, 6)},
		{"PutMove", rec.PutMove(api.Move{Del: 1, Src: 2, Dst: 3, Height: 4, Due: 5, Initial: 6, Shares: one(7)}), eights(1, 2, 3, 4, 5, 6) + "\x01\x07"},
		{"PutNumber", rec.PutNumber(0), eights(0)},
		{"PutNumber", rec.PutNumber(top - 1), "\xff\xff\xff\xff\xff\xff\xff\xfe"},
	} {
		if string(c.got) != c.want {
			t.Errorf("P8.1: %s: % x, not % x", c.what, c.got, c.want)
		}
	}
}

// P8.1: zero records, and drawn ones, with Decs that aren't normal or are too long.
func TestPutDrawn(t *testing.T) {
	r := rand.New(rand.NewSource(81))
	for _, k := range kinds() {
		wantPut(t, k, k.zero())
		for range 1500 {
			wantPut(t, k, k.drawn(r, true))
		}
	}
}

// P8.1: each field stands alone in its place: no other one's bytes hang on it.
func TestPutEachField(t *testing.T) {
	for _, k := range kinds() {
		for i := range places(reflect.New(k.of).Elem()) {
			record := reflect.New(k.of).Elem()
			switch x := places(record)[i].Addr().Interface().(type) {
			case *uint64:
				*x = 0xF1F2F3F4F5F6F7F8
			case *bool:
				*x = true
			case *api.Dec:
				*x = api.Dec{Raw: api.Nat{0xF1F2F3F4F5F6F7F8, 0xE1E2}}
			}
			wantPut(t, k, record.Interface())
		}
	}
}

// lengths tells Decs at the edge of what fits, some with noughts behind their limbs.
func lengths() []api.Dec {
	var all []api.Dec
	for _, n := range []int{0, 1, 8, 9, 247, 248, 249, 254, 255, 256, 257, 264, 320, 512, 4096} {
		for _, b := range []byte{1, 0x7F, 0x80, 0xFF} {
			d := longDec(n, b)
			all = append(all, d, api.Dec{Raw: append(d.Raw, make(api.Nat, 50)...)})
		}
	}
	return append(all, api.Dec{Raw: make(api.Nat, 100)}, api.Dec{Raw: append(make(api.Nat, 31), 1<<56-1)}, api.Dec{Raw: append(make(api.Nat, 31), 1<<56)}, api.Dec{Raw: append(make(api.Nat, 31), 0)})
}

// P8.1: 255 bytes of a Dec are laid, one more counts as 0, in each field, and the fields beside it stay.
func TestPutLongDecs(t *testing.T) {
	r, edges := rand.New(rand.NewSource(82)), lengths()
	for _, k := range kinds() {
		for i := range places(reflect.New(k.of).Elem()) {
			for _, d := range edges {
				record := reflect.New(k.of).Elem()
				record.Set(reflect.ValueOf(k.drawn(r, false)))
				if x, ok := places(record)[i].Addr().Interface().(*api.Dec); ok {
					*x = d
					wantPut(t, k, record.Interface())
				}
			}
		}
	}
	if got := rec.PutPool(longDec(255, 0xFF)); !bytes.Equal(got, bytes.Repeat([]byte{255}, 256)) {
		t.Errorf("P8.1: 255 bytes: % x", got)
	}
	if got := rec.PutPool(longDec(256, 1)); !bytes.Equal(got, []byte{0}) {
		t.Errorf("P8.1: 256 bytes: % x", got)
	}
	all := longDec(300, 1)
	got := rec.PutVal(api.Validator{Rate: 1, Tokens: 2, Shares: all, Jailed: true, Until: 3, Bonded: true, Period: 4, Current: all, Outstanding: all, Commission: all})
	if want := eights(1, 2) + "\x00\x01" + eights(3) + "\x01" + eights(4) + "\x00\x00\x00"; string(got) != want {
		t.Errorf("P8.1: every Dec too long: % x, not % x", got, want)
	}
}
