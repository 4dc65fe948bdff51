package sound

import (
	"glean/api"
	"glean/dec"
	"glean/kv"
	"glean/nat"
	"glean/rec"
	"glean/share"
)

// cut: one that lies there, its period, and the ratio at the end of that.
type cut struct {
	api.Cut
	period uint64
	ratio  api.Dec
}

// rewardsCovered: rule 9.
func rewardsCovered(s *kv.Store) bool {
	for k, v := range validators(s) {
		if !covered(s, k.A, v) {
			return false
		}
	}
	return true
}

// covered tells whether no delegation's stake is above what its shares are worth, and all that a validator owes is outstanding. Claims aren't rounded: with twice the places of a Dec a product of two of them is exact.
func covered(s *kv.Store, id uint64, v api.Validator) bool {
	cuts, last := cutsOf(s, id), ratio(s, id, v.Period-1)
	sum := fine(dec.Add(v.Commission, v.Current))
	for _, d := range recordsOf(s, api.KeyDelegation, id, rec.Delegation) {
		claim, stake := claimed(d, ratio(s, id, d.Period), cuts, last)
		if dec.Cmp(stake, share.Worth(v.Tokens, v.Shares, d.Shares)) > 0 {
			return false
		}
		sum = nat.Add(sum, claim)
	}
	return nat.Cmp(sum, fine(v.Outstanding)) <= 0
}

// claimed tells a delegation's exact claim, from a ratio along the cuts behind it to the last one, and what its stake is behind them.
func claimed(d api.Delegation, from api.Dec, cuts []cut, last api.Dec) (api.Nat, api.Dec) {
	var claim api.Nat
	stake := d.Stake
	earn := func(to api.Dec) {
		rise, _ := dec.Sub(to, from) // ratios don't fall, by rule 7
		claim = nat.Add(claim, nat.Mul(stake.Raw, rise.Raw))
		from = to
	}
	for _, c := range cuts {
		if c.period > d.Period {
			earn(c.ratio)
			stake = c.behind(stake)
		}
	}
	earn(last)
	return claim, stake
}

// behind tells what a cut leaves of a stake, rounded down to its places.
func (c cut) behind(stake api.Dec) api.Dec {
	left, _, _ := nat.MulDiv(stake.Raw, nat.Of(c.After), nat.Of(c.Before)) // Before isn't 0, by rule 8
	return api.Dec{Raw: left}
}

// cutsOf tells a validator's cuts, rising.
func cutsOf(s *kv.Store, id uint64) []cut {
	var all []cut
	for k, c := range recordsOf(s, api.KeyCut, id, rec.Cut) {
		all = append(all, cut{c, k.B, ratio(s, id, k.B)})
	}
	return all
}

// ratio tells a period's ratio; of each one that is asked for there is a history, by rule 7.
func ratio(s *kv.Store, id, period uint64) api.Dec {
	h, _ := record(s, api.Key{Kind: api.KeyHistory, A: id, B: period}, rec.History)
	return h.Ratio
}

// fine tells a Dec in units of twice as many places.
func fine(d api.Dec) api.Nat { return nat.Mul(d.Raw, dec.Of(1).Raw) }
