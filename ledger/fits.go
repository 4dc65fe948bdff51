package ledger

import (
	"glean/api"
	"glean/nat"
	"glean/rat"
)

// grains: how many of the bound's grains are a coin.
const grains = 1_000_000_000_000_000_000

// Fits tells whether a payment lies within the bound.
func Fits(e api.Rat, w uint64, q api.Dec, p, k int) bool {
	paid := rat.Add(rat.OfNat(nat.Of(w)), rat.OfDec(q))
	return rat.Cmp(paid, e) <= 0 && rat.Cmp(e, rat.Add(paid, bound(p, k))) <= 0
}

// bound tells how much less than what is owed may be paid: a grain for each of the periods, times three and the cuts.
func bound(p, k int) api.Rat {
	factor := nat.Add(nat.Of(count(k)), nat.Of(3))
	return per(rat.OfNat(nat.Mul(nat.Of(count(p)), factor)), grains)
}

// count tells a number, and 0 of one below 0.
func count(n int) uint64 { return uint64(max(n, 0)) }
