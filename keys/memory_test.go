package keys_test

import (
	"bytes"
	"testing"

	"glean/api"
	"glean/keys"
)

// P7.2, P7.3: what is handed in stays, and so does the room behind it.
func TestWhatIsHandedInStays(t *testing.T) {
	for _, s := range []string{"", "p", "a", "a\x00\x00\x00\x00\x00\x00\x00\x01", "v\x00\x00\x00\x00\x00\x00\x00\x010", "i\xff\xff\xff\xff\xff\xff\xff\xfe\x00\x00\x00\x00\x00\x00\x00\xff", "\xff\xff"} {
		b := roomy([]byte(s))
		before := bytes.Clone(b[:cap(b)])
		keys.Read(b)
		next := keys.Next(b)
		if !bytes.Equal(b[:cap(b)], before) {
			t.Errorf("P7.3: %q was changed: %q", before, b[:cap(b)])
		}
		told := bytes.Clone(next)
		clear(b[:cap(b)])
		if !bytes.Equal(next, told) {
			t.Errorf("P7.3: Next(%q) follows what was handed in", s)
		}
	}
}

// answers tells what each call answers that tells bytes.
func answers() [][]byte {
	var all [][]byte
	for i, of := range kinds() {
		if i == 0 {
			continue
		}
		k := api.Key{Kind: i}
		if of.numbers > 0 {
			k.A = 7
		}
		b, _ := keys.Make(k)
		one, _ := keys.Of(i)
		under, _ := keys.Under(i, 7)
		all = append(all, b, one, under)
	}
	return append(all, keys.Val(7), keys.Next([]byte("p")))
}

// P7.1, P7.3: what is answered is new memory, also the room behind it: whoever writes there changes no later answer.
func TestWhatIsHandedOutIsNew(t *testing.T) {
	first, second := answers(), answers()
	for _, b := range first {
		b = b[:cap(b)]
		for i := range b {
			b[i] = 0xA5
		}
	}
	for i, want := range answers() {
		if !bytes.Equal(second[i], want) {
			t.Errorf("P7.1: an answer was changed by writing into another: % x, not % x", second[i], want)
		}
	}
	for _, k := range every()[:50] {
		wantRead(t, made(t, k))
	}
}
