package nat

import (
	"strconv"

	"glean/api"
)

// Decimal digits are reckoned in groups: as many at once as one limb holds.
const (
	groupDigits = 19
	groupBase   = 10_000_000_000_000_000_000
)

// Bytes tells it as bytes.
func Bytes(a api.Nat) []byte {
	b := make([]byte, (Bits(a)+7)/8)
	for i := range len(b) {
		b[len(b)-1-i] = byte(a[i/8] >> (i % 8 * 8))
	}
	return b
}

// FromBytes reads it.
func FromBytes(b []byte) (api.Nat, api.Errno) {
	if len(b) > 0 && b[0] == 0 {
		return nil, api.ErrNatForm
	}
	z := make(api.Nat, (len(b)+7)/8)
	for i := range len(b) {
		z[i/8] |= uint64(b[len(b)-1-i]) << (i % 8 * 8)
	}
	return z, api.OK
}

// Text tells it in decimal digits.
func Text(a api.Nat) string {
	groups := split(a)
	if len(groups) == 0 {
		return "0"
	}
	last := len(groups) - 1
	text := strconv.AppendUint(nil, groups[last], 10)
	for i := range last {
		text = appendGroup(text, groups[last-1-i])
	}
	return string(text)
}

// Parse reads it.
func Parse(s string) (api.Nat, api.Errno) {
	if !isText(s) {
		return nil, api.ErrNatForm
	}
	z := make(api.Nat, 0, len(s)/groupDigits+1)
	for len(s) > 0 {
		n := min(groupDigits, len(s))
		z = scale(z, tenTo(n), group(s[:n]))
		s = s[n:]
	}
	return z, api.OK
}

// split tells a's digits to the base groupBase, the lowest first.
func split(a api.Nat) []uint64 {
	var groups []uint64
	rest := Norm(a)
	for len(rest) > 0 {
		groups = append(groups, divideSmall(rest, groupBase))
		rest = trim(rest)
	}
	return groups
}

// appendGroup lays a group's digits behind the text, with the noughts ahead of it.
func appendGroup(text []byte, x uint64) []byte {
	unit := tenTo(groupDigits - 1)
	for range groupDigits {
		text = append(text, byte('0'+x/unit%10))
		unit /= 10
	}
	return text
}

// isText tells whether s is what Text writes.
func isText(s string) bool {
	if s == "" || s[0] == '0' && len(s) > 1 {
		return false
	}
	for i := range len(s) {
		if s[i] < '0' || s[i] > '9' {
			return false
		}
	}
	return true
}

// group reads at most groupDigits digits.
func group(digits string) uint64 {
	var x uint64
	for i := range len(digits) {
		x = 10*x + uint64(digits[i]-'0')
	}
	return x
}

// tenTo tells 10^n, n being at most groupDigits.
func tenTo(n int) uint64 {
	x := uint64(1)
	for range n {
		x *= 10
	}
	return x
}
