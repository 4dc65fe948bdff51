package dec_test

import (
	"math/big"
	"math/rand"
	"regexp"
	"strings"
	"testing"

	"glean/api"
	"glean/dec"
)

// P2.4: among these are the ends of what is written at once.
func TestTextByHand(t *testing.T) {
	noughts := strings.Repeat("0", 36)
	for _, x := range []struct {
		a    api.Dec
		want string
	}{
		{raw(), "0"},
		{raw(0, 0), "0"},
		{raw(1), "0." + noughts[:35] + "1"},
		{raw(1, 0, 0), "0." + noughts[:35] + "1"},
		{raw(10), "0." + noughts[:34] + "1"},
		{raw(1234567890), "0." + noughts[:26] + "123456789"},
		{raw(999999999999999999), "0." + noughts[:18] + strings.Repeat("9", 18)},
		{raw(1000000000000000000), "0." + noughts[:17] + "1"},
		{raw(1000000000000000001), "0." + noughts[:17] + "1" + noughts[:17] + "1"},
		{raw(top), "0." + noughts[:16] + "18446744073709551615"},
		{raw(0, 1), "0." + noughts[:16] + "18446744073709551616"},
		{dec.Of(1), "1"},
		{dec.Of(100), "100"},
		{dec.Of(1000000000000000000), "1" + noughts[:18]},
		{dec.OfNat(api.Nat{0, 1}), "18446744073709551616"},
		{dec.Basis(1), "0.0001"},
		{dec.Basis(27500), "2.75"},
		{dec.Add(dec.Of(10), dec.Basis(1000)), "10.1"},
		{dec.Add(dec.OfNat(api.Nat{top, top}), least), "340282366920938463463374607431768211455." + noughts[:35] + "1"},
	} {
		if got := dec.Text(x.a); got != x.want {
			t.Errorf("P2.4: Text(%v): %q, not %q", x.a.Raw, got, x.want)
		}
		wantDec(t, "P2.4: Parse("+x.want+")", parsed(t, x.want), x.a)
	}
}

// P2.4: every pair of digits at every place.
func TestTextOfEachPlace(t *testing.T) {
	unit := big.NewInt(1)
	for place := range 35 {
		for pair := range int64(100) {
			digits := []byte(strings.Repeat("0", 36))
			digits[34-place], digits[35-place] = byte('0'+pair/10), byte('0'+pair%10)
			want := "3"
			if some := strings.TrimRight(string(digits), "0"); some != "" {
				want += "." + some
			}
			a := dec.Add(dec.Of(3), api.Dec{Raw: limbsOf(product(big.NewInt(pair), unit))})
			if got := dec.Text(a); got != want {
				t.Fatalf("P2.4: Text: %q, not %q", got, want)
			}
			wantDec(t, "P2.4: Parse("+want+")", parsed(t, want), a)
		}
		unit = product(unit, big.NewInt(10))
	}
}

// P2.4
func TestTextThatNothingWrites(t *testing.T) {
	noughts := strings.Repeat("0", 36)
	for _, s := range []string{
		"", ".", "1.", ".5", "1.50", "1.0", "0.0", "1.500", "00", "01", "01.5", "00.5", "007", "1.5.5", "1..5", "..", "1.5.", ".1.5",
		"-1", "-0", "+1", "-1.5", "1.-5", "1.+5", "1,5", "1 ", " 1", "1. 5", "1 .5", "1.5 ", "\t1", "1\n", "1.5\n", "1e3", "1.5e3", "0x1", "1_0", "1.1_1",
		"a", "1.a", "1a.5", "1.5a", "\x00", "1.\x00", "1.5\x00", "/", ":", "1./", "1.:", "1./1", "1.:1", "0/.1", "\xff", "1.\xb1", "٣", "1.٣", "１.5", "1．5",
		"0." + noughts + "1", "0." + noughts, "0." + noughts[1:] + "10", "1." + strings.Repeat("3", 37), "1." + strings.Repeat("3", 100000), "1." + noughts[:35] + "-", "0." + noughts[:17] + "-" + noughts[:17] + "1",
	} {
		got, e := dec.Parse(s)
		wantError(t, "P2.4: Parse("+s[:min(len(s), 50)]+")", got, e, api.ErrDecForm)
	}
}

// P2.4: of all short texts just those are taken that Text can write, and they are Text of what is answered.
func TestAllShortTexts(t *testing.T) {
	form := regexp.MustCompile(`^(0|[1-9][0-9]*)(\.[0-9]{0,35}[1-9])?$`)
	var try func(s string)
	try = func(s string) {
		got, e := dec.Parse(s)
		if !form.MatchString(s) {
			wantError(t, "P2.4: Parse("+s+")", got, e, api.ErrDecForm)
		} else if back := dec.Text(got); e != api.OK || back != s {
			t.Errorf("P2.4: Parse(%q): %q, %v", s, back, e)
		}
		if len(s) < 6 {
			for _, c := range []string{"0", "1", "9", ".", "-"} {
				try(s + c)
			}
		}
	}
	try("")
}

// P2.4, against another arithmetic.
func TestTextAtRandom(t *testing.T) {
	r := rand.New(rand.NewSource(9))
	for range 4000 {
		a := sample(r)
		whole, left := new(big.Int).QuoRem(value(a.Raw), scale, new(big.Int))
		want := whole.String()
		if left.Sign() > 0 {
			digits := left.String()
			want += "." + strings.TrimRight(strings.Repeat("0", 36-len(digits))+digits, "0")
		}
		if got := dec.Text(a); got != want {
			t.Fatalf("P2.4: Text(%v): %q, not %q", a.Raw, got, want)
		}
	}
}
