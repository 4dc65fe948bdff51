package dec

import (
	"strings"

	"glean/api"
	"glean/nat"
)

// The places are written in two halves, each of which fits one uint64.
const half = api.Places / 2

// Text tells it in decimal digits.
func Text(a api.Dec) string {
	whole, left := Trunc(a)
	text := nat.Text(whole)
	if Zero(left) {
		return text
	}
	return text + "." + strings.TrimRight(places(left), "0")
}

// Parse reads it.
func Parse(s string) (api.Dec, api.Errno) {
	digits, behind, dotted := strings.Cut(s, ".")
	whole, e := nat.Parse(digits)
	if e != api.OK {
		return api.Dec{}, api.ErrDecForm
	}
	if !dotted {
		return OfNat(whole), api.OK
	}
	left, e := parsePlaces(behind)
	if e != api.OK {
		return api.Dec{}, e
	}
	return Add(OfNat(whole), left), api.OK
}

// places writes all places of what is below 1.
func places(left api.Dec) string {
	var text [api.Places]byte
	table := pairs()
	write := func(end int, digits api.Nat) {
		x, _ := nat.Small(digits)
		for range half / 2 {
			end -= 2
			copy(text[end:], table[x%100][:])
			x /= 100
		}
	}
	high, low, _ := nat.DivMod(left.Raw, tenTo(half))
	write(half, high)
	write(api.Places, low)
	return string(text[:])
}

// pairs makes the table of the digits of 00 to 99.
func pairs() [100][2]byte {
	var table [100][2]byte
	for i := range table {
		table[i] = [2]byte{byte('0' + i/10), byte('0' + i%10)}
	}
	return table
}

// parsePlaces reads what stands behind the dot.
func parsePlaces(s string) (api.Dec, api.Errno) {
	if len(s) > api.Places || strings.HasSuffix(s, "0") {
		return api.Dec{}, api.ErrDecForm
	}
	// nat takes no noughts ahead. Where nothing stands, it takes nothing either.
	digits, e := nat.Parse(strings.TrimLeft(s, "0"))
	if e != api.OK {
		return api.Dec{}, api.ErrDecForm
	}
	return api.Dec{Raw: nat.Mul(digits, tenTo(api.Places-len(s)))}, api.OK
}
