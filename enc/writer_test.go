package enc_test

import (
	"bytes"
	"math/rand"
	"testing"

	"glean/api"
	"glean/enc"
)

// P4.1
func TestNumbersAreLaid(t *testing.T) {
	for _, x := range []struct {
		what string
		lay  func(w *enc.Writer)
		want []byte
	}{
		{"nothing", func(*enc.Writer) {}, nil},
		{"U8(0)", func(w *enc.Writer) { w.U8(0) }, []byte{0}},
		{"U8(255)", func(w *enc.Writer) { w.U8(255) }, []byte{255}},
		{"U32(0)", func(w *enc.Writer) { w.U32(0) }, make([]byte, 4)},
		{"U32", func(w *enc.Writer) { w.U32(0x01020304) }, []byte{1, 2, 3, 4}},
		{"U32, the greatest", func(w *enc.Writer) { w.U32(1<<32 - 1) }, []byte{255, 255, 255, 255}},
		{"U64(0)", func(w *enc.Writer) { w.U64(0) }, make([]byte, 8)},
		{"U64", func(w *enc.Writer) { w.U64(0x0102030405060708) }, []byte{1, 2, 3, 4, 5, 6, 7, 8}},
		{"U64, the greatest", func(w *enc.Writer) { w.U64(top) }, bytes.Repeat([]byte{255}, 8)},
		{"Bool(true)", func(w *enc.Writer) { w.Bool(true) }, []byte{1}},
		{"Bool(false)", func(w *enc.Writer) { w.Bool(false) }, []byte{0}},
		{"Nat(0)", func(w *enc.Writer) { w.Nat(nil) }, []byte{0}},
		{"Nat(0), empty", func(w *enc.Writer) { w.Nat(api.Nat{}) }, []byte{0}},
		{"Nat(0), not normal", func(w *enc.Writer) { w.Nat(api.Nat{0, 0}) }, []byte{0}},
		{"Nat(255)", func(w *enc.Writer) { w.Nat(api.Nat{255}) }, []byte{1, 255}},
		{"Nat(256)", func(w *enc.Writer) { w.Nat(api.Nat{256}) }, []byte{2, 1, 0}},
		{"Nat(2^64), not normal", func(w *enc.Writer) { w.Nat(api.Nat{0, 1, 0}) }, []byte{9, 1, 0, 0, 0, 0, 0, 0, 0, 0}},
		{"Dec(0)", func(w *enc.Writer) { w.Dec(api.Dec{}) }, []byte{0}},
		{"Dec", func(w *enc.Writer) { w.Dec(api.Dec{Raw: api.Nat{0x0203, 0}}) }, []byte{2, 2, 3}},
		{"Raw of nil", func(w *enc.Writer) { w.Raw(nil) }, make([]byte, 4)},
		{"Raw of nothing", func(w *enc.Writer) { w.Raw([]byte{}) }, make([]byte, 4)},
		{"Raw", func(w *enc.Writer) { w.Raw([]byte{0, 7}) }, []byte{0, 0, 0, 2, 0, 7}},
	} {
		var w enc.Writer
		x.lay(&w)
		wantOut(t, "P4.1: "+x.what, &w, x.want)
	}
}

// P4.1
func TestExampleIsLaid(t *testing.T) {
	var w enc.Writer
	w.U8(7)
	w.U32(258)
	w.Bool(true)
	w.Nat(api.Nat{256})
	w.Raw([]byte("ab"))
	wantOut(t, "P4.1: the example", &w, []byte{7, 0, 0, 1, 2, 1, 2, 1, 0, 0, 0, 0, 2, 0x61, 0x62})
}

// P4.1: 255 bytes of a Nat, and one more.
func TestLongNats(t *testing.T) {
	for _, lay := range []func(w *enc.Writer, n api.Nat){(*enc.Writer).Nat, func(w *enc.Writer, n api.Nat) { w.Dec(api.Dec{Raw: n}) }} {
		var w, v, u enc.Writer
		lay(&w, append(longNat(255, 9), 0, 0))
		wantOut(t, "P4.1: 255 bytes", &w, append([]byte{255}, bytes.Repeat([]byte{9}, 255)...))
		lay(&w, longNat(256, 1))
		wantRefused(t, "P4.1: 256 bytes", &w, api.ErrEncLong)
		lay(&v, longNat(256, 255))
		wantRefused(t, "P4.1: 256 bytes at once", &v, api.ErrEncLong)
		lay(&u, longNat(70000, 1))
		wantRefused(t, "P4.1: 70000 bytes", &u, api.ErrEncLong)
	}
}

// P4.1: behind an error nothing is laid, and the error stays.
func TestWritersErrorStays(t *testing.T) {
	r := rand.New(rand.NewSource(1))
	for kind := range partKinds {
		var w enc.Writer
		w.U32(5)
		w.Nat(longNat(256, 1))
		for range 3 {
			p := sample(r)
			for p.kind != kind {
				p = sample(r)
			}
			p.lay(&w)
			wantRefused(t, "P4.1: behind an error", &w, api.ErrEncLong)
		}
	}
}

// P4.1: Out tells the same as often as it is asked, and what is laid on behind it comes behind.
func TestOutAndOn(t *testing.T) {
	r := rand.New(rand.NewSource(2))
	var w enc.Writer
	var want []byte
	for range 400 {
		p := sample(r)
		p.lay(&w)
		b, e := p.spelt()
		if e != api.OK {
			t.Fatalf("%v can't be laid", p)
		}
		want = append(want, b...)
		wantOut(t, "P4.1: laid on", &w, want)
		wantOut(t, "P4.1: asked again", &w, want)
	}
}

// P4.1: however long they are, pieces stand behind one another.
func TestManyLengths(t *testing.T) {
	for n := range 1100 {
		b := make([]byte, n)
		for i := range b {
			b[i] = byte(i % 251)
		}
		var w, v enc.Writer
		w.Raw(b)
		w.U8(99)
		want := append([]byte{0, 0, byte(n >> 8), byte(n)}, append(b, 99)...)
		wantOut(t, "P4.1: Raw", &w, want)
		for _, x := range want {
			v.U8(x)
		}
		wantOut(t, "P4.1: byte by byte", &v, want)
	}
}
