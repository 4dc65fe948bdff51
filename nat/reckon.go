package nat

import (
	"math/bits"

	"glean/api"
)

// Add tells the sum.
func Add(a, b api.Nat) api.Nat {
	long, short := trim(a), trim(b)
	if len(long) < len(short) {
		long, short = short, long
	}
	z := make(api.Nat, len(long)+1)
	copy(z, long)
	addTimes(z, short, 1)
	return trim(z)
}

// Sub tells the difference.
func Sub(a, b api.Nat) (api.Nat, api.Errno) {
	if Cmp(a, b) < 0 {
		return nil, api.ErrNatBelow
	}
	z := Norm(a)
	takeTimes(z, trim(b), 1)
	return trim(z), api.OK
}

// Mul tells the product.
func Mul(a, b api.Nat) api.Nat {
	x, y := trim(a), trim(b)
	z := make(api.Nat, len(x)+len(y))
	for i := range len(x) {
		end := i + len(y) + 1
		addTimes(z[i:end:end], y, x[i])
	}
	return trim(z)
}

// MulDiv tells a b / c, and what is left.
func MulDiv(a, b, c api.Nat) (api.Nat, api.Nat, api.Errno) {
	return DivMod(Mul(a, b), c)
}

// Pow10 tells a power of ten.
func Pow10(n int) (api.Nat, api.Errno) {
	if n < 0 || n > api.MaxPow {
		return nil, api.ErrNatPow
	}
	z := make(api.Nat, 1, n/groupDigits+1)
	z[0] = 1
	for range n / groupDigits {
		z = scale(z, groupBase, 0)
	}
	return scale(z, tenTo(n%groupDigits), 0), api.OK
}

// addTimes adds b m to z, which has as many limbs as b at least; what goes beyond z is lost.
func addTimes(z, b api.Nat, m uint64) {
	var carry uint64
	for i := range len(b) {
		// The product of two limbs leaves room for two more limbs: high doesn't overflow.
		high, low := bits.Mul64(b[i], m)
		low, more := bits.Add64(low, carry, 0)
		high += more
		z[i], more = bits.Add64(z[i], low, 0)
		carry = high + more
	}
	for i := len(b); i < len(z) && carry != 0; i++ {
		z[i], carry = bits.Add64(z[i], carry, 0)
	}
}

// takeTimes takes b m from z, which has as many limbs as b at least, and tells what it would have to borrow from a limb beyond z.
func takeTimes(z, b api.Nat, m uint64) uint64 {
	var owed uint64
	for i := range len(b) {
		high, low := bits.Mul64(b[i], m)
		low, more := bits.Add64(low, owed, 0)
		high += more
		z[i], more = bits.Sub64(z[i], low, 0)
		owed = high + more
	}
	for i := len(b); i < len(z) && owed != 0; i++ {
		z[i], owed = bits.Sub64(z[i], owed, 0)
	}
	return owed
}

// scale makes z m + c of z, in its own memory as far as that goes. A normal z stays so, if m isn't 0.
func scale(z api.Nat, m, c uint64) api.Nat {
	for i := range len(z) {
		high, low := bits.Mul64(z[i], m)
		low, more := bits.Add64(low, c, 0)
		z[i], c = low, high+more
	}
	if c != 0 {
		z = append(z, c)
	}
	return z
}
