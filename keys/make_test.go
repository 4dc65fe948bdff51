package keys_test

import (
	"math"
	"math/rand"
	"testing"

	"glean/api"
	"glean/keys"
)

// P7.1: the chapter's examples, and one key a kind, byte by byte.
func TestMakeByHand(t *testing.T) {
	const a, b = 0x0102030405060708, 0x1112131415161718
	for _, c := range []struct {
		key  api.Key
		want string
	}{
		{api.Key{Kind: api.KeyHistory, A: 16, B: 2}, "\x76\x00\x00\x00\x00\x00\x00\x00\x10\x68\x00\x00\x00\x00\x00\x00\x00\x02"},
		{api.Key{Kind: api.KeyParams}, "p"},
		{api.Key{Kind: api.KeyChain}, "c"},
		{api.Key{Kind: api.KeyPool}, "m"},
		{api.Key{Kind: api.KeyAccount, A: a}, "a\x01\x02\x03\x04\x05\x06\x07\x08"},
		{api.Key{Kind: api.KeyVal, A: a}, "v\x01\x02\x03\x04\x05\x06\x07\x080"},
		{api.Key{Kind: api.KeyDelegation, A: a, B: b}, "v\x01\x02\x03\x04\x05\x06\x07\x08d\x11\x12\x13\x14\x15\x16\x17\x18"},
		{api.Key{Kind: api.KeyHistory, A: a, B: b}, "v\x01\x02\x03\x04\x05\x06\x07\x08h\x11\x12\x13\x14\x15\x16\x17\x18"},
		{api.Key{Kind: api.KeyCut, A: a, B: b}, "v\x01\x02\x03\x04\x05\x06\x07\x08s\x11\x12\x13\x14\x15\x16\x17\x18"},
		{api.Key{Kind: api.KeyTomb, A: a}, "t\x01\x02\x03\x04\x05\x06\x07\x08"},
		{api.Key{Kind: api.KeyPower, A: a, B: b}, "i\xfe\xfd\xfc\xfb\xfa\xf9\xf8\xf7\x11\x12\x13\x14\x15\x16\x17\x18"},
		{api.Key{Kind: api.KeyBonded, A: a}, "b\x01\x02\x03\x04\x05\x06\x07\x08"},
		{api.Key{Kind: api.KeyUnbonding, A: a}, "u\x01\x02\x03\x04\x05\x06\x07\x08"},
		{api.Key{Kind: api.KeyMove, A: a}, "r\x01\x02\x03\x04\x05\x06\x07\x08"},
		{api.Key{Kind: api.KeyDue, A: a, B: b}, "q\x01\x02\x03\x04\x05\x06\x07\x08\x11\x12\x13\x14\x15\x16\x17\x18"},
		{api.Key{Kind: api.KeySource, A: a, B: b}, "e\x01\x02\x03\x04\x05\x06\x07\x08\x11\x12\x13\x14\x15\x16\x17\x18"},
		{api.Key{Kind: api.KeyHolds, A: a, B: b}, "n\x01\x02\x03\x04\x05\x06\x07\x08\x11\x12\x13\x14\x15\x16\x17\x18"},
		{api.Key{Kind: api.KeyCount, A: a, B: b}, "k\x01\x02\x03\x04\x05\x06\x07\x08\x11\x12\x13\x14\x15\x16\x17\x18"},
		{api.Key{Kind: api.KeyPower}, "i\xff\xff\xff\xff\xff\xff\xff\xff\x00\x00\x00\x00\x00\x00\x00\x00"},
		{api.Key{Kind: api.KeyPower, A: top, B: top}, "i\x00\x00\x00\x00\x00\x00\x00\x00\xff\xff\xff\xff\xff\xff\xff\xff"},
		{api.Key{Kind: api.KeyVal}, "v\x00\x00\x00\x00\x00\x00\x00\x000"},
	} {
		got, e := keys.Make(c.key)
		wantBytes(t, "P7.1: Make", got, e, []byte(c.want))
	}
}

// P7.1: all kinds, at all numbers at which a byte or its order could go wrong.
func TestMakeAtAllNumbers(t *testing.T) {
	for _, k := range every() {
		want, _ := spelt(k)
		got, e := keys.Make(k)
		wantBytes(t, "P7.1: Make", got, e, want)
	}
	r := rand.New(rand.NewSource(7))
	for range 20000 {
		k := drawn(r)
		want, _ := spelt(k)
		got, e := keys.Make(k)
		wantBytes(t, "P7.1: Make", got, e, want)
	}
}

// none tells kinds that aren't any.
func none() []int {
	return []int{math.MinInt, -256, -18, -17, -2, -1, 0, 18, 19, 35, 256, 261, 1<<32 + 5, math.MaxInt}
}

// P7.1: there are no other kinds, whatever the numbers.
func TestMakeOfNoKind(t *testing.T) {
	for _, i := range none() {
		for _, k := range []api.Key{{Kind: i}, {Kind: i, A: 1}, {Kind: i, B: 1}, {Kind: i, A: top, B: top}} {
			got, e := keys.Make(k)
			wantNone(t, "P7.1: Make of no kind", got, e)
		}
	}
}

// P7.1: a number that the kind doesn't use is 0; one that it uses may be anything.
func TestMakeOfNumbersThatAreNotUsed(t *testing.T) {
	for i, of := range kinds() {
		for _, n := range numbers() {
			for _, k := range []api.Key{{Kind: i, A: n}, {Kind: i, B: n}, {Kind: i, A: n, B: n}} {
				got, e := keys.Make(k)
				if i == 0 || of.numbers < 1 && k.A != 0 || of.numbers < 2 && k.B != 0 {
					wantNone(t, "P7.1: Make with a number too many", got, e)
				} else if e != api.OK {
					t.Fatalf("P7.1: Make(%v): %v", k, e)
				}
			}
		}
	}
}
