package share

import (
	"glean/api"
	"glean/dec"
	"glean/nat"
)

// rounding makes the function that tells a b / c, c not being 0: up is the way to go for what is taken from a leaver, down for what is given, so that those who stay never lose by it.
func rounding(up bool) func(a, b, c api.Dec) api.Dec {
	reckon := dec.MulDiv
	if up {
		reckon = dec.MulDivUp
	}
	return func(a, b, c api.Dec) api.Dec {
		rounded, _ := reckon(a, b, c)
		return rounded
	}
}

// mostShares tells how many shares a validator may have; nat.Pow10 never refuses api.SharesPow.
func mostShares() api.Dec {
	power, _ := nat.Pow10(api.SharesPow)
	return dec.OfNat(power)
}
