package sound

import (
	"glean/api"
	"glean/dec"
	"glean/kv"
	"glean/rec"
)

// referred: how many refer to a history.
type referred struct{ count uint64 }

// historiesMatch: rule 7.
func historiesMatch(s *kv.Store) bool {
	for k, v := range validators(s) {
		last := v.Period - 1
		if !refsMatch(s, k.A, last) || !ratiosRise(s, k.A, last) {
			return false
		}
	}
	return true
}

// refsMatch tells whether a validator's histories are just those that are referred to, and as often as they say.
func refsMatch(s *kv.Store, id, last uint64) bool {
	refs := map[uint64]referred{last: {1}}
	refer := func(period uint64) { refs[period] = referred{refs[period].count + 1} }
	for _, d := range recordsOf(s, api.KeyDelegation, id, rec.Delegation) {
		refer(d.Period)
	}
	for k := range recordsOf(s, api.KeyCut, id, rec.Cut) {
		refer(k.B)
	}
	found := 0
	for k, h := range recordsOf(s, api.KeyHistory, id, rec.History) {
		if h.Refs == 0 || h.Refs != refs[k.B].count {
			return false
		}
		found++
	}
	return found == len(refs) // each one that was found is referred to: so none is missing
}

// ratiosRise tells whether a validator's ratios don't fall, none being too great, nor of a period behind the last one.
func ratiosRise(s *kv.Store, id, last uint64) bool {
	most := tenTo(api.RatioPow)
	var ahead api.Dec
	for k, h := range recordsOf(s, api.KeyHistory, id, rec.History) {
		if k.B > last || dec.Cmp(h.Ratio, ahead) < 0 || dec.Cmp(h.Ratio, most) > 0 {
			return false
		}
		ahead = h.Ratio
	}
	return true
}

// cutsFit: rule 8.
func cutsFit(s *kv.Store) bool {
	for _, c := range records(s, api.KeyCut, rec.Cut) {
		if c.After >= c.Before || c.Before > api.MaxSupply {
			return false
		}
	}
	return true
}
