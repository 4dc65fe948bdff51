package nat

import (
	"math"
	"math/bits"

	"glean/api"
)

// DivMod tells the quotient, and what is left.
func DivMod(a, b api.Nat) (api.Nat, api.Nat, api.Errno) {
	y := trim(b)
	if len(y) == 0 {
		return nil, nil, api.ErrNatZero
	}
	if Cmp(a, y) < 0 {
		return nil, Norm(a), api.OK
	}
	if len(y) == 1 {
		q := Norm(a)
		left := divideSmall(q, y[0])
		return trim(q), Of(left), api.OK
	}
	// With the divisor's highest bit set a guess is off by little; both are raised alike, so the quotient stays.
	by := bits.LeadingZeros64(y[len(y)-1])
	rest := raise(trim(a), by)
	q := divideLong(rest, trim(raise(y, by)))
	lower(rest, by)
	return trim(q), trim(rest), api.OK
}

// divideSmall makes the quotient of z, and tells what is left.
func divideSmall(z api.Nat, d uint64) uint64 {
	var left uint64
	for i := range len(z) {
		high := len(z) - 1 - i
		z[high], left = bits.Div64(left, z[high], d)
	}
	return left
}

// divideLong tells the quotient of u by v, and leaves in u what is left. v has two limbs at least and its highest bit set; u's highest limb is below v's.
func divideLong(u, v api.Nat) api.Nat {
	n := len(v)
	at := len(u) - n
	q := make(api.Nat, at)
next:
	if at == 0 {
		return q
	}
	at--
	end := at + n + 1
	window := u[at:end:end]
	q[at] = guess(window, v)
	if takeTimes(window, v, q[at]) == 0 {
		goto next
	}
	// The guess was one too great: v, given back, makes up for what the window was short of.
	q[at]--
	addTimes(window, v, 1)
	goto next
}

// guess tells the digit that the window has by v, or one more. The window has a limb more than v and is below v 2^64.
func guess(window, v api.Nat) uint64 {
	n := len(v)
	if window[n] >= v[n-1] {
		return math.MaxUint64
	}
	// By v's highest limb alone it is at most two too great; where the next one doesn't show that it is too great at all, at most one.
	digit, rest := bits.Div64(window[n], window[n-1], v[n-1])
	if high, _ := bits.Mul64(digit, v[n-2]); high > rest {
		digit--
	}
	return digit
}

// raise tells a 2^by, by being below 64, in a limb more than a has.
func raise(a api.Nat, by int) api.Nat {
	z := make(api.Nat, len(a)+1)
	addTimes(z, a, 1<<by)
	return z
}

// lower divides z by 2^by, by being below 64.
func lower(z api.Nat, by int) {
	var above uint64
	for i := range len(z) {
		high := len(z) - 1 - i
		limb := z[high]
		z[high] = limb>>by | above<<(64-by)
		above = limb
	}
}
