package nat_test

import (
	"bytes"
	"math/rand"
	"strings"
	"testing"

	"glean/api"
	"glean/nat"
)

// P1.4
func TestBytesByHand(t *testing.T) {
	for _, x := range []struct {
		a    api.Nat
		want []byte
	}{
		{nil, nil},
		{api.Nat{0, 0}, nil},
		{api.Nat{1}, []byte{1}},
		{api.Nat{255, 0}, []byte{255}},
		{api.Nat{256}, []byte{1, 0}},
		{api.Nat{0x0102030405060708}, []byte{1, 2, 3, 4, 5, 6, 7, 8}},
		{api.Nat{top}, []byte{255, 255, 255, 255, 255, 255, 255, 255}},
		{api.Nat{2, 1, 0}, []byte{1, 0, 0, 0, 0, 0, 0, 0, 2}},
		{api.Nat{0, 0, 0x0a0b}, append([]byte{0x0a, 0x0b}, make([]byte, 16)...)},
	} {
		got := nat.Bytes(x.a)
		if !bytes.Equal(got, x.want) {
			t.Errorf("P1.4: Bytes(%v): %v", x.a, got)
		}
		back, e := nat.FromBytes(x.want)
		if e != api.OK {
			t.Errorf("P1.4: FromBytes(%v): %v", x.want, e)
		}
		wantNat(t, "P1.4: FromBytes", back, nat.Norm(x.a))
	}
	for _, b := range [][]byte{{0}, {0, 0}, {0, 1}, make([]byte, 9), append(make([]byte, 8), 1)} {
		if got, e := nat.FromBytes(b); e != api.ErrNatForm || len(got) != 0 {
			t.Errorf("P1.4: FromBytes(%v): %v, %v", b, got, e)
		}
	}
}

// P1.4: among these are the ends of groups of digits that are reckoned at once.
func TestTextByHand(t *testing.T) {
	nines, noughts := strings.Repeat("9", 19), strings.Repeat("0", 19)
	for _, x := range []struct {
		a    api.Nat
		want string
	}{
		{nil, "0"},
		{api.Nat{0, 0}, "0"},
		{api.Nat{7, 0}, "7"},
		{api.Nat{9999999999999999999}, nines},
		{api.Nat{10000000000000000000}, "1" + noughts},
		{api.Nat{10000000000000000001}, "1" + noughts[1:] + "1"},
		{api.Nat{top}, "18446744073709551615"},
		{api.Nat{0, 1}, "18446744073709551616"},
		{api.Nat{top, top}, "340282366920938463463374607431768211455"},
		{api.Nat{0, 0, 1, 0}, "340282366920938463463374607431768211456"},
		{nat.Mul(api.Nat{1e19}, api.Nat{1e19}), "1" + noughts + noughts},
		{nat.Add(nat.Mul(api.Nat{1e19}, api.Nat{1e19}), api.Nat{42}), "1" + noughts + noughts[2:] + "42"},
	} {
		if got := nat.Text(x.a); got != x.want {
			t.Errorf("P1.4: Text(%v): %q", x.a, got)
		}
		got, e := nat.Parse(x.want)
		if e != api.OK {
			t.Errorf("P1.4: Parse(%q): %v", x.want, e)
		}
		wantNat(t, "P1.4: Parse", got, nat.Norm(x.a))
	}
}

// P1.4
func TestTextThatNothingWrites(t *testing.T) {
	long := strings.Repeat("1234567890", 9)
	for _, s := range []string{
		"", "00", "01", "007", "+1", "-1", "-0", "+0", " 1", "1 ", " ", "\t1", "1\n", "1a", "a", "0x1", "1e3", "1.0", ".", "1,000", "1_0",
		"/", ":", "1/", "1:", "\x00", "1\x00", "\xb1", "\xff", "٣", "1٣", "１", "0 ", "0a", "0" + long, long + "x", long[:40] + "-" + long[40:], "-" + long,
	} {
		if got, e := nat.Parse(s); e != api.ErrNatForm || len(got) != 0 {
			t.Errorf("P1.4: Parse(%q): %v, %v", s, got, e)
		}
	}
}

// P1.4, against another arithmetic, and P1.5: there and back.
func TestTextAtRandom(t *testing.T) {
	r := rand.New(rand.NewSource(3))
	for i := range 5000 {
		a := sample(r, 1+i%20)
		value := toBig(a)
		b := nat.Bytes(a)
		if !bytes.Equal(b, value.Bytes()) {
			t.Fatalf("P1.4: Bytes(%v): %v", a, b)
		}
		s := nat.Text(a)
		if s != value.String() {
			t.Fatalf("P1.4: Text(%v): %q", a, s)
		}
		fromBytes, e := nat.FromBytes(b)
		fromText, f := nat.Parse(s)
		if e != api.OK || f != api.OK {
			t.Fatalf("P1.5: %v: %v, %v", a, e, f)
		}
		wantNat(t, "P1.5: FromBytes(Bytes)", fromBytes, nat.Norm(a))
		wantNat(t, "P1.5: Parse(Text)", fromText, nat.Norm(a))
	}
}
