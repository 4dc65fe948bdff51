package sound

import (
	"glean/api"
	"glean/dec"
	"glean/kv"
	"glean/nat"
	"glean/power"
	"glean/rec"
)

// mostCount: what heights, numbers and periods of a state are at most.
const mostCount = 2 * api.MaxCount

// held: what delegations have of a validator's shares.
type held struct{ sum api.Dec }

// validatorsFit: rule 4.
func validatorsFit(s *kv.Store) bool {
	if c := chain(s); c.Height > mostCount || c.Next > mostCount {
		return false
	}
	for k, v := range validators(s) {
		buried := lies(s, api.Key{Kind: api.KeyTomb, A: k.A})
		if !isUser(k.A) || !validatorFits(v) || buried && !v.Jailed {
			return false
		}
	}
	return haveValidators(s) && sharesMatch(s)
}

// validatorFits tells what rule 4 asks of a validator's record alone.
func validatorFits(v api.Validator) bool {
	return v.Rate <= api.Parts && v.Period >= 2 && v.Period <= mostCount &&
		!dec.Zero(v.Shares) && dec.Cmp(v.Shares, tenTo(api.SharesPow)) <= 0 &&
		(v.Jailed || v.Until == 0)
}

// haveValidators tells whether all that is of a validator is of one that there is.
func haveValidators(s *kv.Store) bool {
	for _, kind := range []int{api.KeyDelegation, api.KeyHistory, api.KeyCut} {
		for k := range laid(s, kind) {
			if !lies(s, api.Key{Kind: api.KeyVal, A: k.A}) {
				return false
			}
		}
	}
	return true
}

// sharesMatch tells what rule 4 asks of delegators and their shares.
func sharesMatch(s *kv.Store) bool {
	shares := map[uint64]held{}
	for k, d := range records(s, api.KeyDelegation, rec.Delegation) {
		if !isUser(k.B) || dec.Zero(d.Shares) {
			return false
		}
		shares[k.A] = held{dec.Add(shares[k.A].sum, d.Shares)}
	}
	for k, v := range validators(s) {
		if dec.Cmp(shares[k.A].sum, v.Shares) != 0 {
			return false
		}
	}
	return true
}

// holdsMatch: rule 5.
func holdsMatch(s *kv.Store) bool {
	for k := range laid(s, api.KeyDelegation) {
		if !lies(s, api.Key{Kind: api.KeyHolds, A: k.B, B: k.A}) {
			return false
		}
	}
	for k := range laid(s, api.KeyHolds) {
		if !lies(s, api.Key{Kind: api.KeyDelegation, A: k.B, B: k.A}) {
			return false
		}
	}
	return true
}

// indexMatches: rule 6.
func indexMatches(s *kv.Store) bool {
	for k, v := range validators(s) {
		if inIndex(v) && !lies(s, api.Key{Kind: api.KeyPower, A: v.Tokens, B: k.A}) ||
			v.Bonded != lies(s, api.Key{Kind: api.KeyBonded, A: k.A}) {
			return false
		}
	}
	for k := range laid(s, api.KeyPower) {
		if v, there := validator(s, k.B); !there || !inIndex(v) || v.Tokens != k.A {
			return false
		}
	}
	return bondedMatch(s)
}

// inIndex tells whether a validator stands in the index.
func inIndex(v api.Validator) bool { return !v.Jailed && v.Tokens > 0 }

// bondedMatch tells whether just the first ones of the index are bonded. The index is one of validators that there are, so that no other id can be bonded.
func bondedMatch(s *kv.Store) bool {
	most := int(params(s).Max) // rule 2 bounds it
	more, fewer := power.Turns(power.Bonded(s), power.Top(s, most))
	return len(more) == 0 && len(fewer) == 0
}

// tenTo tells a power of ten, one of those that nat.Pow10 doesn't refuse.
func tenTo(n int) api.Dec {
	whole, _ := nat.Pow10(n)
	return dec.OfNat(whole)
}
