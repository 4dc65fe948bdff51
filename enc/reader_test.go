package enc_test

import (
	"bytes"
	"math"
	"testing"

	"glean/api"
	"glean/enc"
)

// P4.2
func TestNumbersAreRead(t *testing.T) {
	for _, x := range []struct {
		b    []byte
		kind int
		want part
	}{
		{[]byte{0}, partU8, part{}},
		{[]byte{255}, partU8, part{x: 255}},
		{[]byte{1, 2, 3, 4}, partU32, part{x: 0x01020304}},
		{[]byte{255, 255, 255, 255}, partU32, part{x: 1<<32 - 1}},
		{[]byte{1, 2, 3, 4, 5, 6, 7, 8}, partU64, part{x: 0x0102030405060708}},
		{bytes.Repeat([]byte{255}, 8), partU64, part{x: top}},
		{[]byte{0}, partBool, part{}},
		{[]byte{1}, partBool, part{x: 1}},
		{[]byte{0}, partNat, part{}},
		{[]byte{1, 255}, partNat, part{n: api.Nat{255}}},
		{[]byte{2, 1, 0}, partNat, part{n: api.Nat{256}}},
		{[]byte{8, 255, 0, 0, 0, 0, 0, 0, 1}, partNat, part{n: api.Nat{255<<56 + 1}}},
		{[]byte{9, 1, 0, 0, 0, 0, 0, 0, 0, 0}, partNat, part{n: api.Nat{0, 1}}},
		{append([]byte{255}, bytes.Repeat([]byte{9}, 255)...), partNat, part{n: longNat(255, 9)}},
		{[]byte{0}, partDec, part{}},
		{[]byte{2, 2, 3}, partDec, part{n: api.Nat{0x0203}}},
		{append([]byte{255}, bytes.Repeat([]byte{1}, 255)...), partDec, part{n: longNat(255, 1)}},
		{[]byte{0, 0, 0, 0}, partRaw, part{}},
		{[]byte{0, 0, 0, 3, 0, 7, 0}, partRaw, part{b: []byte{0, 7, 0}}},
	} {
		x.want.kind = x.kind
		for _, more := range [][]byte{nil, {0}, {1, 2, 3}} {
			r := enc.NewReader(append(bytes.Clone(x.b), more...))
			if got := read(r, x.kind, 3); !got.same(x.want) {
				t.Errorf("P4.2: % x: %v, not %v", x.b, got, x.want)
			}
			wantLeft(t, "P4.2", r, len(more), api.OK)
		}
	}
}

// P4.2: a call that meets an error takes nothing; behind it each call reads nothing and answers a zero value.
func TestWrongBytes(t *testing.T) {
	for _, x := range []struct {
		b    []byte
		kind int
		want api.Errno
	}{
		{nil, partU8, api.ErrEncShort},
		{nil, partU32, api.ErrEncShort},
		{[]byte{1, 2, 3}, partU32, api.ErrEncShort},
		{nil, partU64, api.ErrEncShort},
		{[]byte{1, 2, 3, 4, 5, 6, 7}, partU64, api.ErrEncShort},
		{nil, partBool, api.ErrEncShort},
		{[]byte{2, 1, 1}, partBool, api.ErrEncForm},
		{[]byte{255, 1, 1}, partBool, api.ErrEncForm},
		{nil, partNat, api.ErrEncShort},
		{[]byte{1}, partNat, api.ErrEncShort},
		{[]byte{3, 1, 1}, partNat, api.ErrEncShort},
		{[]byte{3, 0, 1}, partNat, api.ErrEncShort},
		{bytes.Repeat([]byte{255}, 255), partNat, api.ErrEncShort},
		{[]byte{1, 0}, partNat, api.ErrEncForm},
		{[]byte{2, 0, 5}, partNat, api.ErrEncForm},
		{[]byte{2, 0, 5, 1, 1, 1, 1, 1, 1}, partNat, api.ErrEncForm},
		{append([]byte{255}, make([]byte, 255)...), partNat, api.ErrEncForm},
		{nil, partDec, api.ErrEncShort},
		{[]byte{2, 1}, partDec, api.ErrEncShort},
		{[]byte{2, 0, 5}, partDec, api.ErrEncForm},
		{nil, partRaw, api.ErrEncShort},
		{[]byte{0, 0, 0}, partRaw, api.ErrEncShort},
		{[]byte{255, 255, 255}, partRaw, api.ErrEncShort},
		{[]byte{0, 0, 0, 5, 1, 2, 3, 4}, partRaw, api.ErrEncShort},
		{[]byte{0, 0, 0, 6, 1, 2, 3, 4}, partRaw, api.ErrEncLong},
		{[]byte{0, 0, 0, 6, 1, 2, 3, 4, 5, 6, 7}, partRaw, api.ErrEncLong},
		{[]byte{255, 255, 255, 255, 0, 0, 0, 0}, partRaw, api.ErrEncLong},
	} {
		r := enc.NewReader(x.b)
		if got := read(r, x.kind, 5); !got.same(part{kind: x.kind}) {
			t.Errorf("P4.2: % x: beside the error %v: %v", x.b, r.Err(), got)
		}
		wantLeft(t, "P4.2", r, len(x.b), x.want)
		for kind := range partKinds {
			if got := read(r, kind, 9); !got.same(part{kind: kind}) {
				t.Errorf("P4.2: % x: behind the error: %v", x.b, got)
			}
			wantLeft(t, "P4.2: behind the error", r, len(x.b), x.want)
		}
		if e := r.End(); e != x.want {
			t.Errorf("P4.3: % x: End: %v, not %v", x.b, e, x.want)
		}
		wantLeft(t, "P4.3: behind End", r, len(x.b), x.want)
	}
}

// P4.2: the length is held against most, first of all.
func TestMost(t *testing.T) {
	two, huge := []byte{0, 0, 0, 2, 97, 98}, []byte{255, 255, 255, 255, 97, 98}
	for _, x := range []struct {
		b    []byte
		most int
		want api.Errno
	}{
		{two, 1, api.ErrEncLong},
		{two, 0, api.ErrEncLong},
		{two, -1, api.ErrEncLong},
		{two, math.MinInt, api.ErrEncLong},
		{two, 2, api.OK},
		{two, 3, api.OK},
		{two, math.MaxInt, api.OK},
		{make([]byte, 4), 0, api.OK},
		{make([]byte, 4), -1, api.ErrEncLong},
		{make([]byte, 4), math.MinInt, api.ErrEncLong},
		{make([]byte, 3), -1, api.ErrEncShort},
		{huge, math.MaxInt32, api.ErrEncLong},
		{huge, -1, api.ErrEncLong},
	} {
		r := enc.NewReader(x.b)
		got, left := r.Raw(x.most), len(x.b)
		if x.want == api.OK {
			if !bytes.Equal(got, x.b[4:]) {
				t.Errorf("P4.2: % x: Raw(%d): % x", x.b, x.most, got)
			}
			left = 0
		} else if len(got) > 0 {
			t.Errorf("P4.2: % x: Raw(%d): % x beside the error", x.b, x.most, got)
		}
		wantLeft(t, "P4.2: Raw", r, left, x.want)
	}
	if math.MaxInt > math.MaxInt32 {
		r := enc.NewReader(huge)
		r.Raw(math.MaxInt)
		wantLeft(t, "P4.2: more than there is", r, 6, api.ErrEncShort)
	}
}

// P4.2, P4.3: an error in the midst leaves what was taken ahead of it.
func TestErrorInTheMidst(t *testing.T) {
	r := enc.NewReader([]byte{7, 2, 1, 0, 2, 0, 5, 9})
	if x, n := r.U8(), r.Nat(); x != 7 || len(n) != 1 || n[0] != 256 {
		t.Errorf("P4.2: %d, %v", x, n)
	}
	wantLeft(t, "P4.3: ahead of the error", r, 4, api.OK)
	wantNat(t, "P4.2: with a nought ahead", r.Nat(), nil)
	wantLeft(t, "P4.3: at the error", r, 4, api.ErrEncForm)
	if x := r.U8(); x != 0 {
		t.Errorf("P4.2: behind the error: %d", x)
	}
	r.U64()
	wantLeft(t, "P4.3: the first error stays", r, 4, api.ErrEncForm)
}

// P4.3
func TestEnd(t *testing.T) {
	r := enc.NewReader(nil)
	for range 2 {
		if e := r.End(); e != api.OK {
			t.Errorf("P4.3: End of nothing: %v", e)
		}
	}
	if r.U8(); r.End() != api.ErrEncShort {
		t.Errorf("P4.3: End behind an error: %v", r.End())
	}
	r = enc.NewReader([]byte{7, 8})
	if x := r.U8(); x != 7 || r.Err() != api.OK {
		t.Errorf("P4.3: %d, %v", x, r.Err())
	}
	for range 2 {
		if e := r.End(); e != api.ErrEncMore {
			t.Errorf("P4.3: End ahead of a byte: %v", e)
		}
		wantLeft(t, "P4.3: behind End", r, 1, api.ErrEncMore)
		if x := r.U8(); x != 0 {
			t.Errorf("P4.3: read behind End: %d", x)
		}
	}
	r = enc.NewReader([]byte{7})
	if r.U8(); r.Left() != 0 || r.End() != api.OK || r.Err() != api.OK {
		t.Errorf("P4.3: all taken: %d, %v", r.Left(), r.Err())
	}
}
