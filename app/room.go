package app

import (
	"math/big"

	"glean/api"
	"glean/dist"
	"glean/kv"
	"glean/stake"
)

// How keys of a validator begin, where such a key tells its kind, and by which bytes: the layers that this one calls tell a validator by its id, but not which ones there are, nor their histories.
const (
	valBegin    = 0x76
	markAt      = 9
	valMark     = 0x30
	historyMark = 0x68
)

// ratioPow: a ratio that an engine begins with is at most 10^ratioPow.
const ratioPow = 50

// roomy tells whether the numbers of a sound store are small enough that no run can have them grow out of what is sound.
func roomy(s *kv.Store) bool {
	c := stake.Chain(s)
	if c.Height > api.MaxCount || c.Next > api.MaxCount {
		return false
	}
	most := new(big.Int).Exp(big.NewInt(10), big.NewInt(ratioPow+api.Places), nil)
	for k, b := range s.Prefix([]byte{valBegin}) {
		if k[markAt] == valMark && period(s, k) > api.MaxCount || k[markAt] == historyMark && ratio(b).Cmp(most) > 0 {
			return false
		}
	}
	return true
}

// period tells the period of the validator that has this key.
func period(s *kv.Store, k []byte) uint64 {
	id := new(big.Int).SetBytes(k[1:markAt])
	v, _ := dist.Val(s, id.Uint64())
	return v.Period
}

// ratio tells the Raw of a history's ratio: how many bytes it has, then these.
func ratio(history []byte) *big.Int {
	return new(big.Int).SetBytes(history[1 : 1+int(history[0])])
}
