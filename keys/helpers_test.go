package keys_test

import (
	"bytes"
	"encoding/binary"
	"math/rand"
	"testing"

	"glean/api"
	"glean/keys"
)

const top = ^uint64(0)

// kind: what the chapter's table says of a kind, by none of the project's calls.
type kind struct {
	head, mark byte // mark: behind A; 0: none
	numbers    int
	falling    bool
}

// kinds tells the chapter's table, in its order; there is none at 0.
func kinds() []kind {
	return []kind{
		{},
		{head: 0x70},
		{head: 0x63},
		{head: 0x6D},
		{head: 0x61, numbers: 1},
		{head: 0x76, mark: 0x30, numbers: 1},
		{head: 0x76, mark: 0x64, numbers: 2},
		{head: 0x76, mark: 0x68, numbers: 2},
		{head: 0x76, mark: 0x73, numbers: 2},
		{head: 0x74, numbers: 1},
		{head: 0x69, numbers: 2, falling: true},
		{head: 0x62, numbers: 1},
		{head: 0x75, numbers: 1},
		{head: 0x72, numbers: 1},
		{head: 0x71, numbers: 2},
		{head: 0x65, numbers: 2},
		{head: 0x6E, numbers: 2},
		{head: 0x6B, numbers: 2},
	}
}

// under tells the bytes ahead of B of that kind's keys, by none of the project's calls.
func (k kind) under(a uint64) []byte {
	b := []byte{k.head}
	if k.falling {
		a = top - a
	}
	if k.numbers > 0 {
		b = binary.BigEndian.AppendUint64(b, a)
	}
	if k.mark != 0 {
		b = append(b, k.mark)
	}
	return b
}

// spelt tells the bytes of a key, and whether it is one, by none of the project's calls.
func spelt(k api.Key) ([]byte, bool) {
	all := kinds()
	if k.Kind < 1 || k.Kind >= len(all) {
		return nil, false
	}
	of := all[k.Kind]
	if of.numbers < 1 && k.A != 0 || of.numbers < 2 && k.B != 0 {
		return nil, false
	}
	b := of.under(k.A)
	if of.numbers == 2 {
		b = binary.BigEndian.AppendUint64(b, k.B)
	}
	return b, true
}

// meant tells the key of bytes, and whether they are one's: it tries each kind, and spells what it found.
func meant(b []byte) (api.Key, bool) {
	for i, of := range kinds() {
		k := api.Key{Kind: i}
		if of.numbers > 0 && len(b) >= 9 {
			k.A = binary.BigEndian.Uint64(b[1:])
		}
		if of.falling {
			k.A = top - k.A
		}
		if of.numbers > 1 && len(b) >= 17 {
			k.B = binary.BigEndian.Uint64(b[len(b)-8:])
		}
		if s, ok := spelt(k); ok && bytes.Equal(s, b) {
			return k, true
		}
	}
	return api.Key{}, false
}

// numbers tells numbers, rising, at which a byte or its order could go wrong.
func numbers() []uint64 {
	return []uint64{0, 1, 2, 16, 127, 128, 255, 256, 258, 0x0102030405060708, 1 << 62, 0x6468737630303030, 1<<63 - 1, 1 << 63, top - 255, top - 1, top}
}

// every tells all keys, of all kinds, of those numbers.
func every() []api.Key {
	var all []api.Key
	for i, of := range kinds() {
		for _, a := range numbers() {
			for _, b := range numbers() {
				if i > 0 && (of.numbers > 0 || a == 0) && (of.numbers > 1 || b == 0) {
					all = append(all, api.Key{Kind: i, A: a, B: b})
				}
			}
		}
	}
	return all
}

// drawn draws a key; many of its numbers are near to one another.
func drawn(r *rand.Rand) api.Key {
	all := kinds()
	k := api.Key{Kind: 1 + r.Intn(len(all)-1)}
	if all[k.Kind].numbers > 0 {
		k.A = r.Uint64() >> r.Intn(64)
	}
	if all[k.Kind].numbers > 1 {
		k.B = r.Uint64() >> r.Intn(64)
	}
	return k
}

// made tells a key's bytes, and fails if there are none.
func made(t *testing.T, k api.Key) []byte {
	t.Helper()
	b, e := keys.Make(k)
	if e != api.OK {
		t.Fatalf("P7.1: Make(%v): %v", k, e)
	}
	return b
}

// wantBytes fails unless a call has answered that, without an error.
func wantBytes(t *testing.T, what string, got []byte, e api.Errno, want []byte) {
	t.Helper()
	if e != api.OK || !bytes.Equal(got, want) {
		t.Fatalf("%s: % x, %v, not % x", what, got, e, want)
	}
}

// wantNone fails unless a call has refused, and told nothing beside it.
func wantNone(t *testing.T, what string, got []byte, e api.Errno) {
	t.Helper()
	if e != api.ErrKeysForm || got != nil {
		t.Fatalf("%s: % x, %v, not ErrKeysForm", what, got, e)
	}
}

// wantRead fails unless Read tells of bytes what the chapter's table does.
func wantRead(t *testing.T, b []byte) {
	t.Helper()
	want, ok := meant(b)
	got, e := keys.Read(b)
	if got != want || ok && e != api.OK || !ok && e != api.ErrKeysForm {
		t.Fatalf("P7.2: Read(% x): %v, %v, not %v, %t", b, got, e, want, ok)
	}
}

// roomy tells the same bytes, with room behind them that isn't empty.
func roomy(b []byte) []byte {
	long := append(bytes.Clone(b), bytes.Repeat([]byte{0xA5}, 40)...)
	return long[:len(b)]
}
