package dec_test

import (
	"math/big"
	"math/rand"
	"slices"
	"strings"
	"testing"

	"glean/api"
	"glean/dec"
)

// P2.1
func TestOf(t *testing.T) {
	for _, x := range []uint64{0, 1, 2, 10, 1<<32 + 1, 1 << 63, top - 1, top} {
		wantRaw(t, "P2.1: Of", dec.Of(x), product(new(big.Int).SetUint64(x), scale))
		wantRaw(t, "P2.1: OfNat", dec.OfNat(api.Nat{x, 0, 0}), product(new(big.Int).SetUint64(x), scale))
	}
	for _, n := range []api.Nat{nil, {}, {0}, {0, 0}, {0, 1}, {top, top}, {3, 0, 1}, {0, 0, 0, 7, 0}, {top, top, top, top}} {
		wantRaw(t, "P2.1: OfNat", dec.OfNat(n), product(value(n), scale))
	}
	// 10^36 by hand: 54210108624275221 times 2^64, and 12919594847110692864.
	if got := dec.Of(1).Raw; !slices.Equal(got, api.Nat{12919594847110692864, 54210108624275221}) {
		t.Errorf("P2.1: Of(1): %v", got)
	}
}

// P2.1
func TestBasis(t *testing.T) {
	for _, x := range []struct {
		n    uint64
		want string
	}{
		{0, "0"},
		{1, "0.0001"},
		{10, "0.001"},
		{500, "0.05"},
		{9999, "0.9999"},
		{10000, "1"},
		{10001, "1.0001"},
		{20000, "2"},
		{top, "1844674407370955.1615"},
	} {
		wantDec(t, "P2.1: Basis", dec.Basis(x.n), parsed(t, x.want))
	}
}

// P2.1
func TestZeroAndCmp(t *testing.T) {
	for _, a := range []api.Dec{{}, raw(), raw(0), raw(0, 0, 0)} {
		if !dec.Zero(a) {
			t.Errorf("P2.1: Zero(%v)", a.Raw)
		}
	}
	for _, a := range []api.Dec{raw(1), raw(1, 0), raw(0, 1), raw(0, 0, 1, 0), raw(top), dec.Of(1)} {
		if dec.Zero(a) {
			t.Errorf("P2.1: Zero(%v)", a.Raw)
		}
	}
	for _, x := range []struct {
		a, b api.Dec
		want int
	}{
		{raw(), raw(0, 0), 0},
		{raw(5), raw(5, 0), 0},
		{dec.Of(7), dec.Of(7), 0},
		{raw(), raw(1), -1},
		{raw(1), raw(2), -1},
		{raw(top, 0), raw(0, 1), -1},
		{raw(top, 1), raw(0, 2), -1},
		{parsed(t, "0.9"), dec.Of(1), -1},
		{parsed(t, "1.09"), parsed(t, "1.1"), -1},
		{dec.Of(9), dec.Of(10), -1},
	} {
		if got := dec.Cmp(x.a, x.b); got != x.want {
			t.Errorf("P2.1: Cmp(%v, %v): %d", x.a.Raw, x.b.Raw, got)
		}
		if got := dec.Cmp(x.b, x.a); got != -x.want {
			t.Errorf("P2.1: Cmp(%v, %v): %d", x.b.Raw, x.a.Raw, got)
		}
	}
}

// P2.1
func TestAddSubTimesByHand(t *testing.T) {
	wantDec(t, "P2.1: 0 + 0", dec.Add(raw(0), raw()), raw())
	wantDec(t, "P2.1: carried", dec.Add(raw(top), raw(1, 0)), raw(0, 1))
	wantDec(t, "P2.1: 1.75 + 0.25", dec.Add(parsed(t, "1.75"), parsed(t, "0.25")), dec.Of(2))
	for _, x := range []struct{ a, b, want api.Dec }{
		{raw(), raw(0), raw()},
		{raw(5, 0), raw(5), raw()},
		{raw(0, 1), raw(1), raw(top)},
		{dec.Of(2), parsed(t, "0.25"), parsed(t, "1.75")},
	} {
		got, e := dec.Sub(x.a, x.b)
		if e != api.OK {
			t.Errorf("P2.1: Sub(%v, %v): %v", x.a.Raw, x.b.Raw, e)
		}
		wantDec(t, "P2.1: Sub", got, x.want)
	}
	for _, x := range []struct{ a, b api.Dec }{{dec.Of(1), dec.Of(2)}, {raw(), raw(1)}, {raw(0, 0), raw(1)}, {raw(top, 0), raw(0, 1)}, {raw(4), raw(5)}} {
		got, e := dec.Sub(x.a, x.b)
		wantError(t, "P2.1: Sub", got, e, api.ErrDecBelow)
	}
	wantDec(t, "P2.1: 2.75 times 4", dec.Times(parsed(t, "2.75"), 4), dec.Of(11))
	wantDec(t, "P2.1: times 0", dec.Times(dec.Of(3), 0), raw())
	wantDec(t, "P2.1: 0 times", dec.Times(raw(0, 0), top), raw())
	wantDec(t, "P2.1: the greatest limbs", dec.Times(raw(top), top), raw(1, top-1))
}

// P2.1, against another arithmetic.
func TestExactAtRandom(t *testing.T) {
	r := rand.New(rand.NewSource(1))
	for range 4000 {
		a, b, n := sample(r), sample(r), r.Uint64()>>r.Intn(65)
		x, y := value(a.Raw), value(b.Raw)
		if dec.Cmp(a, b) != x.Cmp(y) || dec.Zero(a) != (x.Sign() == 0) {
			t.Fatalf("P2.1: Cmp(%s, %s): %d; Zero: %t", x, y, dec.Cmp(a, b), dec.Zero(a))
		}
		wantRaw(t, "P2.1: Add", dec.Add(a, b), new(big.Int).Add(x, y))
		wantRaw(t, "P2.1: Times", dec.Times(a, n), product(x, new(big.Int).SetUint64(n)))
		got, e := dec.Sub(a, b)
		if x.Cmp(y) < 0 {
			wantError(t, "P2.1: Sub", got, e, api.ErrDecBelow)
			continue
		}
		if e != api.OK {
			t.Fatalf("P2.1: Sub(%s, %s): %v", x, y, e)
		}
		wantRaw(t, "P2.1: Sub", got, new(big.Int).Sub(x, y))
	}
}

// P2.3
func TestTrunc(t *testing.T) {
	nines := "0." + strings.Repeat("9", 36)
	for _, x := range []struct {
		a     api.Dec
		whole api.Nat
		left  string
	}{
		{raw(), nil, "0"},
		{raw(0, 0), nil, "0"},
		{least, nil, "0." + strings.Repeat("0", 35) + "1"},
		{parsed(t, "2.75"), api.Nat{2}, "0.75"},
		{parsed(t, nines), nil, nines},
		{dec.Of(1), api.Nat{1}, "0"},
		{dec.Add(dec.Of(1), least), api.Nat{1}, dec.Text(least)},
		{dec.Of(top), api.Nat{top}, "0"},
		{dec.Add(dec.OfNat(api.Nat{0, 1}), parsed(t, "0.5")), api.Nat{0, 1}, "0.5"},
	} {
		whole, left := dec.Trunc(x.a)
		if !slices.Equal(whole, x.whole) {
			t.Errorf("P2.3: Trunc(%v): %v", x.a.Raw, whole)
		}
		wantDec(t, "P2.3: what is left", left, parsed(t, x.left))
	}
}

// P2.3 and P2.6, against another arithmetic: the parts are those of a, and make it.
func TestTruncAtRandom(t *testing.T) {
	r := rand.New(rand.NewSource(2))
	for range 4000 {
		a := sample(r)
		whole, left := dec.Trunc(a)
		wantWhole, wantLeft := new(big.Int).QuoRem(value(a.Raw), scale, new(big.Int))
		wantRaw(t, "P2.3: the whole part", api.Dec{Raw: whole}, wantWhole)
		wantRaw(t, "P2.3: what is left", left, wantLeft)
		wantDec(t, "P2.6: both parts", dec.Add(dec.OfNat(whole), left), a)
	}
}
