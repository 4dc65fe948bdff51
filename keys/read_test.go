package keys_test

import (
	"bytes"
	"math/rand"
	"testing"

	"glean/api"
	"glean/keys"
)

// P7.2: what Make tells is read, and nothing that is shorter, longer, or has another mark.
func TestReadNearKeys(t *testing.T) {
	for _, k := range every() {
		b := made(t, k)
		if got, e := keys.Read(b); e != api.OK || got != k {
			t.Fatalf("P7.2: Read(% x): %v, %v, not %v", b, got, e, k)
		}
		for n := range len(b) {
			wantRead(t, b[:n])
		}
		for _, more := range []string{"\x00", "\xff", "0", "d", "\x00\x00\x00\x00\x00\x00\x00\x00", "d\x00\x00\x00\x00\x00\x00\x00\x00"} {
			wantRead(t, append(bytes.Clone(b), more...))
		}
	}
}

// P7.2: every byte at every place of a key: numbers take all, marks their own alone.
func TestReadEveryByte(t *testing.T) {
	for i, of := range kinds() {
		if i == 0 {
			continue
		}
		k := api.Key{Kind: i}
		if of.numbers > 0 {
			k.A = 0x6468733064687330
		}
		if of.numbers > 1 {
			k.B = 0x3064687330646873
		}
		b := made(t, k)
		for at := range b {
			for c := range 256 {
				other := bytes.Clone(b)
				other[at] = byte(c)
				wantRead(t, other)
			}
		}
	}
}

// P7.2: each length, with each byte at its beginning: none but the table's forms are keys.
func TestReadEveryLength(t *testing.T) {
	for n := range 70 {
		for head := range 256 {
			for _, fill := range []byte{0, 0x30, 0x64, 0x68, 0x73, 0x76, 0xFF} {
				b := bytes.Repeat([]byte{fill}, n)
				if n > 0 {
					b[0] = byte(head)
				}
				wantRead(t, b)
			}
		}
	}
	wantRead(t, nil)
	wantRead(t, make([]byte, 1<<16))
}

// P7.2: bytes that are drawn, most of them like keys.
func TestReadDrawn(t *testing.T) {
	r := rand.New(rand.NewSource(72))
	lengths := []int{0, 1, 2, 8, 9, 10, 11, 16, 17, 18, 19, 25, 26}
	for range 50000 {
		b := make([]byte, lengths[r.Intn(len(lengths))])
		r.Read(b)
		if len(b) > 0 && r.Intn(5) > 0 {
			b[0] = "pcmavtiburqenk"[r.Intn(14)]
		}
		if len(b) > 9 && r.Intn(2) > 0 {
			b[9] = "0dhs\x00"[r.Intn(5)]
		}
		wantRead(t, b)
	}
}

// P7.2: beside the error stands no key.
func TestReadTellsNothingBesideAnError(t *testing.T) {
	for _, b := range []string{"", "\x00", "z", "pp", "v", "v\x00\x00\x00\x00\x00\x00\x00\x01", "v\x00\x00\x00\x00\x00\x00\x00\x01d", "a\x00\x00\x00\x00\x00\x00\x00\x01\x00", "v\x00\x00\x00\x00\x00\x00\x00\x010\x00\x00\x00\x00\x00\x00\x00\x01"} {
		if got, e := keys.Read([]byte(b)); e != api.ErrKeysForm || got != (api.Key{}) {
			t.Errorf("P7.2: Read(%q): %v, %v", b, got, e)
		}
	}
}
