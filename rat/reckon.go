package rat

import (
	"glean/api"
	"glean/nat"
)

// Add tells the sum.
func Add(a, b api.Rat) api.Rat { return Sum(a, b) }

// Sub tells the difference.
func Sub(a, b api.Rat) (api.Rat, api.Errno) {
	difference, e := together(lowest(a), lowest(b), nat.Sub)
	if e != api.OK {
		return api.Rat{}, api.ErrRatBelow
	}
	return difference, api.OK
}

// Mul tells the product.
func Mul(a, b api.Rat) api.Rat {
	x, y := counted(a), counted(b)
	return reduced(nat.Mul(x.Num, y.Num), nat.Mul(x.Den, y.Den))
}

// Quo tells the quotient.
func Quo(a, b api.Rat) (api.Rat, api.Errno) {
	if Zero(b) {
		return api.Rat{}, api.ErrRatZero
	}
	return Mul(a, api.Rat{Num: b.Den, Den: b.Num}), api.OK
}

// Sum tells the sum of all.
func Sum(l ...api.Rat) api.Rat {
	return fold(func(sum, next api.Rat) api.Rat {
		more, _ := together(sum, lowest(next), plus)
		return more
	}, l...)
}

// fold takes one fraction behind the other into what join makes of them, from 0 on.
func fold(join func(soFar, next api.Rat) api.Rat, l ...api.Rat) api.Rat {
	soFar := OfNat(nil)
	for _, next := range l {
		soFar = join(soFar, next)
	}
	return soFar
}

// plus tells the sum of two numerators, which is never refused.
func plus(x, y api.Nat) (api.Nat, api.Errno) { return nat.Add(x, y), api.OK }

// lowest tells a, reduced.
func lowest(a api.Rat) api.Rat {
	x := counted(a)
	return reduced(x.Num, x.Den)
}

// together brings two reduced fractions to their least common denominator, and joins the numerators over it. Join makes the sum or the difference of two: then what the result's parts have in common divides what the denominators had in common, so that a sum of many is reduced by small numbers, however long it has become.
func together(a, b api.Rat, join func(x, y api.Nat) (api.Nat, api.Errno)) (api.Rat, api.Errno) {
	common := nat.Gcd(a.Den, b.Den)
	left, right := quotient(a.Den, common), quotient(b.Den, common)
	num, e := join(nat.Mul(a.Num, right), nat.Mul(b.Num, left))
	if e != api.OK {
		return api.Rat{}, e
	}
	rest := nat.Gcd(num, common)
	return api.Rat{Num: quotient(num, rest), Den: nat.Mul(left, quotient(b.Den, rest))}, api.OK
}
