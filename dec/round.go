package dec

import (
	"glean/api"
	"glean/nat"
)

// Mul tells the product, rounded down.
func Mul(a, b api.Dec) api.Dec {
	product, _ := divide(a.Raw, b.Raw, unit(), rounding(false))
	return product
}

// Quo tells the quotient, rounded down.
func Quo(a, b api.Dec) (api.Dec, api.Errno) {
	return divide(a.Raw, unit(), b.Raw, rounding(false))
}

// MulDiv tells a b / c, rounded down.
func MulDiv(a, b, c api.Dec) (api.Dec, api.Errno) {
	return divide(a.Raw, b.Raw, c.Raw, rounding(false))
}

// MulDivUp tells a b / c, rounded up.
func MulDivUp(a, b, c api.Dec) (api.Dec, api.Errno) {
	return divide(a.Raw, b.Raw, c.Raw, rounding(true))
}

// Over tells a / n, rounded down.
func Over(a api.Dec, n uint64) (api.Dec, api.Errno) {
	return divide(a.Raw, nat.Of(1), nat.Of(n), rounding(false))
}

// divide tells the Dec that round puts together of a b / c. It is the one division behind all rounded results, so that each is rounded once.
func divide(a, b, c api.Nat, round func(quotient, left api.Nat) api.Dec) (api.Dec, api.Errno) {
	quotient, left, e := nat.MulDiv(a, b, c)
	if e != api.OK {
		return api.Dec{}, api.ErrDecZero
	}
	return round(quotient, left), api.OK
}

// rounding makes the function that puts a Dec together of a quotient that was rounded down, and what was left: it goes up, if it is told to and something was left.
func rounding(up bool) func(quotient, left api.Nat) api.Dec {
	return func(quotient, left api.Nat) api.Dec {
		if up && len(left) > 0 {
			quotient = nat.Add(quotient, nat.Of(1))
		}
		return api.Dec{Raw: quotient}
	}
}
