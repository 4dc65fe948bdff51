package dec_test

import (
	"math/big"
	"math/rand"
	"strings"
	"testing"

	"glean/api"
	"glean/dec"
)

// answered takes a result that must not be refused.
func answered(t *testing.T) func(api.Dec, api.Errno) api.Dec {
	return func(d api.Dec, e api.Errno) api.Dec {
		t.Helper()
		if e != api.OK {
			t.Fatalf("P2.2: refused: %v", e)
		}
		return d
	}
}

// P2.2
func TestRoundedByHand(t *testing.T) {
	of, ok := dec.Of, answered(t)
	third := "0." + strings.Repeat("3", 36)
	for _, x := range []struct {
		what string
		got  api.Dec
		want string
	}{
		{"1 / 3", ok(dec.Quo(of(1), of(3))), third},
		{"2 / 3", ok(dec.Quo(of(2), of(3))), "0." + strings.Repeat("6", 36)},
		{"6 / 3", ok(dec.Quo(of(6), of(3))), "2"},
		{"0 / 3", ok(dec.Quo(raw(0), of(3))), "0"},
		{"the least by the greatest", ok(dec.Quo(least, of(top))), "0"},
		{"1 by the least", ok(dec.Quo(of(1), least)), "1" + strings.Repeat("0", 36)},
		{"1 1 / 3, up", ok(dec.MulDivUp(of(1), of(1), of(3))), "0." + strings.Repeat("3", 35) + "4"},
		{"1 1 / 3, down", ok(dec.MulDiv(of(1), of(1), of(3))), third},
		{"6 2 / 3, up", ok(dec.MulDivUp(of(6), of(2), of(3))), "4"},
		{"1 / 3, three times, by 1", ok(dec.MulDiv(parsed(t, third), of(3), of(1))), "0." + strings.Repeat("9", 36)},
		// Rounded twice, 7 / 3 times 3 would be below 7.
		{"7 3 / 3, once", ok(dec.MulDiv(of(7), of(3), of(3))), "7"},
		{"nothing, up", ok(dec.MulDivUp(raw(0, 0), of(5), of(3))), "0"},
		{"least least / 1, down", ok(dec.MulDiv(least, least, of(1))), "0"},
		{"least least / 1, up", ok(dec.MulDivUp(least, least, of(1))), dec.Text(least)},
		{"up, carried through all places", ok(dec.MulDivUp(parsed(t, "0."+strings.Repeat("9", 36)), of(1), parsed(t, "0."+strings.Repeat("9", 35)+"8"))), "1." + strings.Repeat("0", 35) + "2"},
		{"7 by 4", ok(dec.Over(of(7), 4)), "1.75"},
		{"1 by 3", ok(dec.Over(of(1), 3)), third},
		{"the least by 2", ok(dec.Over(least, 2)), "0"},
		{"all by the greatest", ok(dec.Over(of(top), top)), "1"},
		{"1.5 1.5", dec.Mul(parsed(t, "1.5"), parsed(t, "1.5")), "2.25"},
		{"a third of a third", dec.Mul(parsed(t, third), parsed(t, third)), "0." + strings.Repeat("1", 35)},
		{"the least of a half", dec.Mul(least, parsed(t, "0.5")), "0"},
		{"the least of 1.9", dec.Mul(least, parsed(t, "1.9")), dec.Text(least)},
		{"0 of 7", dec.Mul(raw(), of(7)), "0"},
		{"7 of 0", dec.Mul(of(7), raw(0, 0)), "0"},
	} {
		if got := dec.Text(x.got); got != x.want {
			t.Errorf("P2.2: %s: %s, not %s", x.what, got, x.want)
		}
	}
}

// P2.2
func TestByNought(t *testing.T) {
	for _, a := range []api.Dec{{}, raw(0), raw(1), dec.Of(7), raw(0, 0, 1)} {
		got, e := dec.Over(a, 0)
		wantError(t, "P2.2: Over", got, e, api.ErrDecZero)
		for _, nought := range []api.Dec{{}, raw(), raw(0), raw(0, 0, 0)} {
			got, e = dec.Quo(a, nought)
			wantError(t, "P2.2: Quo", got, e, api.ErrDecZero)
			got, e = dec.MulDiv(a, dec.Of(3), nought)
			wantError(t, "P2.2: MulDiv", got, e, api.ErrDecZero)
			got, e = dec.MulDivUp(a, dec.Of(3), nought)
			wantError(t, "P2.2: MulDivUp", got, e, api.ErrDecZero)
		}
	}
}

// down tells a b / c, rounded down, by another arithmetic.
func down(a, b, c *big.Int) *big.Int { return new(big.Int).Quo(product(a, b), c) }

// up tells a b / c, rounded up, by another arithmetic.
func up(a, b, c *big.Int) *big.Int {
	q, left := new(big.Int).QuoRem(product(a, b), c, new(big.Int))
	if left.Sign() > 0 {
		q.Add(q, big.NewInt(1))
	}
	return q
}

// P2.2, against another arithmetic.
func TestRoundedAtRandom(t *testing.T) {
	r := rand.New(rand.NewSource(3))
	ok := answered(t)
	for range 4000 {
		a, b, c, n := sample(r), sample(r), sample(r), r.Uint64()>>r.Intn(64)
		x, y, z := value(a.Raw), value(b.Raw), value(c.Raw)
		wantRaw(t, "P2.2: Mul", dec.Mul(a, b), down(x, y, scale))
		if n > 0 {
			wantRaw(t, "P2.2: Over", ok(dec.Over(a, n)), down(x, big.NewInt(1), new(big.Int).SetUint64(n)))
		}
		if z.Sign() == 0 {
			continue
		}
		wantRaw(t, "P2.2: Quo", ok(dec.Quo(a, c)), down(x, scale, z))
		wantRaw(t, "P2.2: MulDiv", ok(dec.MulDiv(a, b, c)), down(x, y, z))
		wantRaw(t, "P2.2: MulDivUp", ok(dec.MulDivUp(a, b, c)), up(x, y, z))
	}
}
