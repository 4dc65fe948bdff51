package enc_test

import (
	"bytes"
	"encoding/binary"
	"math/big"
	"math/rand"
	"slices"
	"testing"

	"glean/api"
	"glean/enc"
)

const top = ^uint64(0)

// limbs makes the normal Nat whose digits to the base 256 are b, by none of the project's calls.
func limbs(b []byte) api.Nat {
	x := new(big.Int).SetBytes(b)
	var n api.Nat
	for x.Sign() > 0 {
		n = append(n, new(big.Int).And(x, new(big.Int).SetUint64(top)).Uint64())
		x.Rsh(x, 64)
	}
	return n
}

// digits tells a Nat's digits to the base 256, by none of the project's calls.
func digits(n api.Nat) []byte {
	x := new(big.Int)
	for _, limb := range slices.Backward(n) {
		x.Lsh(x, 64)
		x.Or(x, new(big.Int).SetUint64(limb))
	}
	return x.Bytes()
}

// longNat makes the Nat of so many bytes, each of them b.
func longNat(n int, b byte) api.Nat { return limbs(bytes.Repeat([]byte{b}, n)) }

// wantOut fails unless the Writer has laid that, without an error.
func wantOut(t *testing.T, what string, w *enc.Writer, want []byte) {
	t.Helper()
	got, e := w.Out()
	if e != api.OK || !bytes.Equal(got, want) {
		t.Fatalf("%s: % x, %v, not % x", what, got, e, want)
	}
}

// wantRefused fails unless the Writer tells that error, and nothing beside it.
func wantRefused(t *testing.T, what string, w *enc.Writer, want api.Errno) {
	t.Helper()
	if got, e := w.Out(); e != want || len(got) != 0 {
		t.Fatalf("%s: % x, %v, not the error %v", what, got, e, want)
	}
}

// wantLeft fails unless the Reader stands there, with that error.
func wantLeft(t *testing.T, what string, r *enc.Reader, left int, want api.Errno) {
	t.Helper()
	if r.Left() != left || r.Err() != want {
		t.Fatalf("%s: %d left, %v, not %d, %v", what, r.Left(), r.Err(), left, want)
	}
}

// wantNat fails unless got is that very Nat: its limbs, and none behind them.
func wantNat(t *testing.T, what string, got, want api.Nat) {
	t.Helper()
	if !slices.Equal(got, want) {
		t.Fatalf("%s: %v, not %v", what, got, want)
	}
}

// part: something to be laid or read, of one of the seven kinds.
type part struct {
	kind int
	x    uint64
	n    api.Nat
	b    []byte
}

// The kinds of parts, in the order of the face.
const (
	partU8 = iota
	partU32
	partU64
	partBool
	partNat
	partDec
	partRaw
	partKinds
)

// lay hands a part to a Writer.
func (p part) lay(w *enc.Writer) {
	switch p.kind {
	case partU8:
		w.U8(uint8(p.x))
	case partU32:
		w.U32(uint32(p.x))
	case partU64:
		w.U64(p.x)
	case partBool:
		w.Bool(p.x == 1)
	case partNat:
		w.Nat(p.n)
	case partDec:
		w.Dec(api.Dec{Raw: p.n})
	case partRaw:
		w.Raw(p.b)
	}
}

// read asks a Reader for a part of that kind.
func read(r *enc.Reader, kind, most int) part {
	p := part{kind: kind}
	switch kind {
	case partU8:
		p.x = uint64(r.U8())
	case partU32:
		p.x = uint64(r.U32())
	case partU64:
		p.x = r.U64()
	case partBool:
		if r.Bool() {
			p.x = 1
		}
	case partNat:
		p.n = r.Nat()
	case partDec:
		p.n = r.Dec().Raw
	case partRaw:
		p.b = r.Raw(most)
	}
	return p
}

// same tells whether two parts are the same, Nats limb by limb.
func (p part) same(q part) bool {
	return p.kind == q.kind && p.x == q.x && slices.Equal(p.n, q.n) && bytes.Equal(p.b, q.b)
}

// spelt tells the bytes of a part, and the error that laying it meets, by none of the project's calls.
func (p part) spelt() ([]byte, api.Errno) {
	switch p.kind {
	case partU8, partBool:
		return []byte{byte(p.x)}, api.OK
	case partU32:
		return binary.BigEndian.AppendUint32(nil, uint32(p.x)), api.OK
	case partU64:
		return binary.BigEndian.AppendUint64(nil, p.x), api.OK
	case partRaw:
		return append(binary.BigEndian.AppendUint32(nil, uint32(len(p.b))), p.b...), api.OK
	}
	d := digits(p.n)
	if len(d) > 255 {
		return nil, api.ErrEncLong
	}
	return append([]byte{byte(len(d))}, d...), api.OK
}

// normal tells the part as it is read: its Nat has no noughts at its end.
func (p part) normal() part {
	p.n = limbs(digits(p.n))
	return p
}

// sample draws a part that can be laid; some Nats aren't normal.
func sample(r *rand.Rand) part {
	p := part{kind: r.Intn(partKinds)}
	switch p.kind {
	case partU8:
		p.x = r.Uint64() >> 56
	case partU32:
		p.x = r.Uint64() >> 32 >> r.Intn(32)
	case partU64:
		p.x = r.Uint64() >> r.Intn(64)
	case partBool:
		p.x = uint64(r.Intn(2))
	case partNat, partDec:
		p.n = append(limbs(drawn(r, 256)), make(api.Nat, r.Intn(3))...)
	case partRaw:
		p.b = drawn(r, 600)
	}
	return p
}

// drawn draws fewer than so many bytes, a few mostly.
func drawn(r *rand.Rand, n int) []byte {
	b := make([]byte, r.Intn(n)>>r.Intn(9))
	r.Read(b)
	return b
}
