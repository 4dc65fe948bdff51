package enc_test

import (
	"bytes"
	"encoding/binary"
	"math/rand"
	"testing"

	"glean/api"
	"glean/enc"
)

// P4.4: what was laid is read in the same order, to its end.
func TestThereAndBack(t *testing.T) {
	r := rand.New(rand.NewSource(3))
	for range 1500 {
		var w enc.Writer
		var parts []part
		for range r.Intn(20) {
			p := sample(r)
			p.lay(&w)
			parts = append(parts, p)
		}
		b, e := w.Out()
		if e != api.OK {
			t.Fatalf("P4.4: refused: %v", e)
		}
		reader := enc.NewReader(b)
		for _, p := range parts {
			if got := read(reader, p.kind, len(p.b)); !got.same(p.normal()) {
				t.Fatalf("P4.4: %v was laid, %v read", p, got)
			}
		}
		if e := reader.End(); e != api.OK {
			t.Fatalf("P4.4: End: %v", e)
		}
	}
}

// crowded draws bytes in which small counts stand, so that many of them can be read.
func crowded(r *rand.Rand) []byte {
	b := drawn(r, 300)
	for i := range b {
		if r.Intn(3) > 0 {
			b[i] = byte(r.Intn(4))
		}
		if r.Intn(12) == 0 {
			copy(b[i:], []byte{0, 0, 0, byte(r.Intn(9))})
		}
	}
	return b
}

// expected tells what is to be read of b's front, and how many bytes it takes, by none of the project's calls.
func expected(b []byte, kind, most int) (part, int, api.Errno) {
	none, size := part{kind: kind}, map[int]int{partU8: 1, partU32: 4, partU64: 8, partBool: 1, partNat: 1, partDec: 1, partRaw: 4}[kind]
	if len(b) < size {
		return none, 0, api.ErrEncShort
	}
	p := none
	p.x = binary.BigEndian.Uint64(append(make([]byte, 8-size), b[:size]...))
	switch {
	case kind == partBool && p.x > 1:
		return none, 0, api.ErrEncForm
	case kind == partRaw && int(p.x) > most:
		return none, 0, api.ErrEncLong
	case kind != partNat && kind != partDec && kind != partRaw:
		return p, size, api.OK
	case len(b)-size < int(p.x):
		return none, 0, api.ErrEncShort
	}
	body := b[size : size+int(p.x)]
	size += len(body)
	p.x = 0
	if kind == partRaw {
		p.b = body
		return p, size, api.OK
	}
	if len(body) > 0 && body[0] == 0 {
		return none, 0, api.ErrEncForm
	}
	p.n = limbs(body)
	return p, size, api.OK
}

// P4.2, P4.4: of any bytes, what is read is what the chapter says of them; laid again it is the bytes that were taken.
func TestAnyBytes(t *testing.T) {
	r := rand.New(rand.NewSource(4))
	met := map[api.Errno]int{}
	for range 6000 {
		b := crowded(r)
		var w enc.Writer
		reader, taken, first := enc.NewReader(b), 0, api.OK
		for range 2 + r.Intn(12) {
			kind, most := r.Intn(partKinds), r.Intn(40)-1
			want, n, e := expected(b[taken:], kind, most)
			if first != api.OK {
				want, n = part{kind: kind}, 0
			} else {
				first = e
			}
			got := read(reader, kind, most)
			if !got.same(want) {
				t.Fatalf("P4.2: % x: %v, not %v", b[taken:], got, want)
			}
			taken += n
			wantLeft(t, "P4.2", reader, len(b)-taken, first)
			if first == api.OK {
				got.lay(&w)
			}
		}
		wantOut(t, "P4.4: laid again", &w, b[:taken])
		met[first]++
	}
	for _, e := range []api.Errno{api.OK, api.ErrEncShort, api.ErrEncForm, api.ErrEncLong} {
		if met[e] < 50 {
			t.Errorf("only %d of the draws met %v", met[e], e)
		}
	}
}

// P4.4: no two spellings: unlike parts are unlike bytes.
func TestOneSpelling(t *testing.T) {
	r := rand.New(rand.NewSource(5))
	for range 3000 {
		p, q := sample(r), sample(r)
		if p.kind != q.kind {
			continue
		}
		var w, v enc.Writer
		p.lay(&w)
		q.lay(&v)
		a, _ := w.Out()
		b, _ := v.Out()
		if p.normal().same(q.normal()) != bytes.Equal(a, b) {
			t.Fatalf("P4.4: %v and %v: % x and % x", p, q, a, b)
		}
	}
}
