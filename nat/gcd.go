package nat

import (
	"math/bits"

	"glean/api"
)

// steps: what several steps of Euclid's make of x and y: px x - qx y and qy y - py x, or, if odd, both with the other sign.
type steps struct {
	px, qx, py, qy uint64
	odd            bool
}

// Gcd tells the greatest common divisor.
func Gcd(a, b api.Nat) api.Nat {
	x, y := Norm(a), Norm(b)
	if Cmp(x, y) < 0 {
		x, y = y, x
	}
	for len(y) > 1 {
		x, y = shrink(x, y)
	}
	if len(y) == 0 {
		return x
	}
	return Of(gcdSmall(y[0], divideSmall(x, y[0])))
}

// gcdSmall tells that of two limbs.
func gcdSmall(x, y uint64) uint64 {
	for y != 0 {
		x, y = y, x%y
	}
	return x
}

// shrink goes on by several steps at once, if the highest bits tell them: a division for each would cost far more. If they tell none it divides.
func shrink(x, y api.Nat) (api.Nat, api.Nat) {
	by := bits.LeadingZeros64(x[len(x)-1])
	s := foresee(highBits(x, len(x), by), highBits(y, len(x), by))
	if s.qx == 0 {
		_, rest, _ := DivMod(x, y)
		return y, rest
	}
	if s.odd {
		return differ(y, x, s.qx, s.px), differ(x, y, s.py, s.qy)
	}
	return differ(x, y, s.px, s.qx), differ(y, x, s.qy, s.py)
}

// highBits tells the 64 bits of z that begin by bits below its n-th limb's end; z may have fewer limbs than n.
func highBits(z api.Nat, n, by int) uint64 {
	var high, low uint64
	if n-1 < len(z) {
		high = z[n-1]
	}
	if n-2 < len(z) {
		low = z[n-2]
	}
	return high<<by | low>>(64-by)
}

// foresee goes Euclid's steps with the highest bits x and y of two numbers, as long as those go the same ones, whatever the bits below are.
func foresee(x, y uint64) steps {
	s := steps{px: 1, qy: 1}
	for y != 0 {
		quotient, rest := x/y, x%y
		p, q := s.px+quotient*s.py, s.qx+quotient*s.qy
		// The bits below move rest by less than q, and y by less than qy: rest must stay from 0 on, and below y.
		if rest < q || y-rest < q+s.qy {
			break
		}
		x, y = y, rest
		s = steps{px: s.py, qx: s.qy, py: p, qy: q, odd: !s.odd}
	}
	return s
}

// differ tells x m - y n, which isn't below 0.
func differ(x, y api.Nat, m, n uint64) api.Nat {
	z := make(api.Nat, max(len(x), len(y))+1)
	addTimes(z, x, m)
	takeTimes(z, y, n)
	return trim(z)
}
