package sound_test

import (
	"testing"

	"glean/api"
	"glean/dec"
	"glean/keys"
	"glean/kv"
	"glean/power"
	"glean/rec"
)

// val16 tells how validator 16 is changed.
func val16(how func(*api.Validator)) func(*kv.Store) {
	return func(s *kv.Store) { changeVal(s, 16, how) }
}

// rename has all that is of a validator lie there of another id.
func rename(s *kv.Store, from, to uint64) {
	for _, p := range s.Dump() {
		k, _ := keys.Read(p.Key)
		switch {
		case k.Kind >= api.KeyVal && k.Kind <= api.KeyTomb && k.A == from, k.Kind == api.KeyBonded && k.A == from:
			k.A = to
		case (k.Kind == api.KeyPower || k.Kind == api.KeyHolds) && k.B == from:
			k.B = to
		}
		b, _ := keys.Make(k)
		moveEntry(s, p.Key, b)
	}
}

// P19.2, rule 4: whose validators and delegations may be.
func TestIds(t *testing.T) {
	for id, rule := range map[uint64]int{0: 4, 1: 4, 4: 4, 15: 4, 16: 0, 17: 0, top: 0} {
		s := plain()
		rename(s, 16, id)
		wantRule(t, "a validator of another id", s, rule)
		s = plain()
		moveEntry(s, at(api.KeyDelegation, 16, 16), at(api.KeyDelegation, 16, id))
		moveEntry(s, at(api.KeyHolds, 16, 16), at(api.KeyHolds, id, 16))
		wantRule(t, "a delegator of another id", s, rule)
	}
}

// P19.2, rule 4: a validator's own fields, at their bounds.
func TestValidatorsFields(t *testing.T) {
	wantRules(t, plain, []fault{
		{0, "the greatest rate", val16(func(v *api.Validator) { v.Rate = 10000 })},
		{4, "one past it", val16(func(v *api.Validator) { v.Rate = 10001 })},
		{4, "the most of all", val16(func(v *api.Validator) { v.Rate = top })},
		{4, "period 0", val16(func(v *api.Validator) { v.Period = 0 })},
		{4, "period 1", val16(func(v *api.Validator) { v.Period = 1 })},
		{4, "Until of one who isn't jailed", val16(func(v *api.Validator) { v.Until = 1 })},
		{4, "Forever of one who isn't jailed", val16(func(v *api.Validator) { v.Until = top })},
		{4, "a tomb of one who isn't jailed", func(s *kv.Store) { s.Set(at(api.KeyTomb, 16), rec.PutNumber(0)) }},
		{0, "tombs of who are no validators", func(s *kv.Store) {
			for _, id := range []uint64{0, 1, 15, 17, top} {
				s.Set(at(api.KeyTomb, id), rec.PutNumber(9))
			}
		}},
	})
	wantRules(t, grown, []fault{
		{0, "jailed, Until 0", func(s *kv.Store) { changeVal(s, 17, func(v *api.Validator) { v.Until = 0 }) }},
		{0, "a tomb of one who is jailed", func(s *kv.Store) { s.Set(at(api.KeyTomb, 17), rec.PutNumber(top)) }},
		{0, "jailed forever, without a tomb", func(s *kv.Store) { s.Delete(at(api.KeyTomb, 19)) }},
		{4, "one of a tomb who isn't jailed", func(s *kv.Store) {
			changeVal(s, 19, func(v *api.Validator) { v.Jailed, v.Until = false, 0 })
			power.Put(s, 19, 95)
		}},
		{4, "let out, with Until", func(s *kv.Store) {
			changeVal(s, 17, func(v *api.Validator) { v.Jailed = false })
		}},
	})
}

// lastPeriod has validator 16 of a plain state have a period, with a history for it.
func lastPeriod(period uint64) func(*kv.Store) {
	return func(s *kv.Store) {
		changeVal(s, 16, func(v *api.Validator) { v.Period = period })
		changeHistory(s, 16, 1, func(h *api.History) { h.Refs = 1 })
		s.Set(at(api.KeyHistory, 16, period-1), rec.PutHistory(api.History{Refs: 1}))
	}
}

// P19.2, rule 4: heights, numbers and periods at their bound.
func TestGreatCounts(t *testing.T) {
	chained := func(height, next uint64) func(*kv.Store) {
		return func(s *kv.Store) { s.Set(at(api.KeyChain), rec.PutChain(api.Chain{Height: height, Next: next})) }
	}
	wantRules(t, plain, []fault{
		{0, "the greatest height", chained(most, 1)},
		{4, "one past it", chained(most+1, 1)},
		{4, "the greatest of all", chained(top, 1)},
		{0, "the greatest number", chained(5, most)},
		{4, "one past it", chained(5, most+1)},
		{4, "the greatest of all", chained(5, top)},
		{0, "no height, no number", chained(0, 0)},
		{0, "period 3", lastPeriod(3)},
		{0, "the greatest period", lastPeriod(most)},
		{4, "one past it", lastPeriod(most + 1)},
		{4, "the greatest of all", lastPeriod(top)},
		{7, "the greatest period, of a delegation", func(s *kv.Store) {
			changeDelegation(s, 16, 16, func(d *api.Delegation) { d.Period = top })
		}},
	})
}

// P19.2, rule 4: shares aren't 0, and at most 10^54; those of delegations sum to the validator's.
func TestShares(t *testing.T) {
	both := func(d api.Dec) func(*kv.Store) {
		return func(s *kv.Store) {
			changeVal(s, 16, func(v *api.Validator) { v.Shares = d })
			changeDelegation(s, 16, 16, func(x *api.Delegation) { x.Shares = d })
		}
	}
	wantRules(t, plain, []fault{
		{4, "no shares", both(api.Dec{})},
		{0, "a hair of shares", both(parsed(hair))},
		{0, "the most shares", both(tenTo(54))},
		{4, "a hair more", both(dec.Add(tenTo(54), parsed(hair)))},
		{4, "a share more than delegations have", val16(func(v *api.Validator) { v.Shares = dec.Of(11) })},
		{4, "a hair more", val16(func(v *api.Validator) { v.Shares = dec.Add(v.Shares, parsed(hair)) })},
		{4, "a hair less", val16(func(v *api.Validator) { v.Shares = less(v.Shares, parsed(hair)) })},
		{4, "no delegation", func(s *kv.Store) {
			s.Delete(at(api.KeyDelegation, 16, 16))
			s.Delete(at(api.KeyHolds, 16, 16))
		}},
		{4, "a delegation without shares", func(s *kv.Store) {
			s.Set(at(api.KeyDelegation, 16, 17), rec.PutDelegation(api.Delegation{Period: 1}))
			s.Set(at(api.KeyHolds, 17, 16), nil)
			changeHistory(s, 16, 1, func(h *api.History) { h.Refs++ })
		}},
		{0, "a delegation of some of the shares", func(s *kv.Store) {
			s.Set(at(api.KeyDelegation, 16, 17), rec.PutDelegation(api.Delegation{Shares: parsed(hair), Period: 1}))
			s.Set(at(api.KeyHolds, 17, 16), nil)
			changeHistory(s, 16, 1, func(h *api.History) { h.Refs++ })
			changeDelegation(s, 16, 16, func(d *api.Delegation) { d.Shares, d.Stake = less(d.Shares, parsed(hair)), api.Dec{} })
		}},
	})
	wantRules(t, grown, []fault{
		{4, "a share of another validator's", func(s *kv.Store) {
			changeDelegation(s, 16, 21, func(d *api.Delegation) { d.Shares = less(d.Shares, dec.Of(1)) })
			changeDelegation(s, 17, 21, func(d *api.Delegation) { d.Shares = dec.Add(d.Shares, dec.Of(1)) })
		}},
		{9, "a share of another delegator's", func(s *kv.Store) {
			changeDelegation(s, 16, 21, func(d *api.Delegation) { d.Shares = less(d.Shares, dec.Of(1)) })
			changeDelegation(s, 16, 20, func(d *api.Delegation) { d.Shares = dec.Add(d.Shares, dec.Of(1)) })
		}},
	})
}

// P19.2, rule 4: what is of a validator that isn't there.
func TestNobodysThings(t *testing.T) {
	for _, id := range []uint64{0, 15, 17, top} {
		for _, p := range []api.Pair{
			{Key: at(api.KeyDelegation, id, 16), Value: rec.PutDelegation(api.Delegation{Shares: dec.Of(1), Period: 1})},
			{Key: at(api.KeyHistory, id, 1), Value: rec.PutHistory(api.History{Refs: 1})},
			{Key: at(api.KeyCut, id, 1), Value: rec.PutCut(api.Cut{Before: 2, After: 1})},
		} {
			s := plain()
			s.Set(p.Key, p.Value)
			wantRule(t, "of a validator that isn't there", s, 4)
		}
	}
	s := grown()
	s.Delete(at(api.KeyVal, 18))
	wantRule(t, "a validator's things without it", s, 4)
}

// P19.2, rule 5: KeyHolds stands for each delegation, the delegator first.
func TestHolds(t *testing.T) {
	wantRules(t, grown, []fault{
		{5, "none", func(s *kv.Store) { s.Delete(at(api.KeyHolds, 20, 16)) }},
		{5, "one turned round", func(s *kv.Store) { moveEntry(s, at(api.KeyHolds, 20, 16), at(api.KeyHolds, 16, 20)) }},
		{5, "one more", func(s *kv.Store) { s.Set(at(api.KeyHolds, 20, 17), nil) }},
		{5, "one of another delegator", func(s *kv.Store) { moveEntry(s, at(api.KeyHolds, 20, 16), at(api.KeyHolds, 22, 16)) }},
		{5, "one of another validator", func(s *kv.Store) { moveEntry(s, at(api.KeyHolds, 20, 16), at(api.KeyHolds, 20, 18)) }},
		{5, "one of nobody", func(s *kv.Store) { s.Set(at(api.KeyHolds, 0, 0), nil) }},
	})
}

// P19.2, rule 6: who stands in the index, and with what.
func TestIndex(t *testing.T) {
	wantRules(t, grown, []fault{
		{6, "one is missing", func(s *kv.Store) { power.Drop(s, 16, 381) }},
		{6, "one with a token more", func(s *kv.Store) { power.Drop(s, 16, 381); power.Put(s, 16, 382) }},
		{6, "one twice", func(s *kv.Store) { power.Put(s, 16, 380) }},
		{6, "one without tokens, too", func(s *kv.Store) { power.Put(s, 16, 0) }},
		{6, "one who is jailed", func(s *kv.Store) { power.Put(s, 17, 207) }},
		{6, "one of no validator", func(s *kv.Store) { power.Put(s, 20, 5) }},
		{6, "one of no validator, without tokens", func(s *kv.Store) { power.Put(s, 20, 0) }},
		{6, "both changed", func(s *kv.Store) {
			power.Drop(s, 16, 381)
			power.Drop(s, 18, 150)
			power.Put(s, 16, 150)
			power.Put(s, 18, 381)
		}},
		{6, "one who was let out without it", func(s *kv.Store) {
			changeVal(s, 17, func(v *api.Validator) { v.Jailed, v.Until = false, 0 })
		}},
	})
	zero := func(s *kv.Store) { // all tokens are gone: the validator stands in no index, and isn't bonded
		power.Drop(s, 16, 10)
		power.Bond(s, 16, false)
		changeVal(s, 16, func(v *api.Validator) { v.Tokens, v.Bonded = 0, false })
		changeDelegation(s, 16, 16, func(d *api.Delegation) { d.Stake = api.Dec{} })
		s.Delete(at(api.KeyAccount, 2))
	}
	wantRules(t, plain, []fault{
		{0, "a validator without tokens", zero},
		{6, "one without tokens in the index", func(s *kv.Store) { zero(s); power.Put(s, 16, 0) }},
	})
}

// P19.2, rule 6: who is bonded: just the first ones of the index, the record and the mark saying so.
func TestBonded(t *testing.T) {
	mark := func(id uint64, on bool) func(*kv.Store) {
		return func(s *kv.Store) { power.Bond(s, id, on) }
	}
	record := func(id uint64, on bool) func(*kv.Store) {
		return func(s *kv.Store) { changeVal(s, id, func(v *api.Validator) { v.Bonded = on }) }
	}
	both := func(id uint64, on bool) func(*kv.Store) {
		return func(s *kv.Store) { mark(id, on)(s); record(id, on)(s) }
	}
	bound := func(n uint64) func(*kv.Store) {
		return func(s *kv.Store) { changeParams(s, func(p *api.Params) { p.Max = n }) }
	}
	wantRules(t, grown, []fault{
		{6, "a mark is missing", mark(16, false)},
		{6, "a record doesn't say so", record(16, false)},
		{6, "the first one isn't bonded", both(16, false)},
		{6, "the second one isn't", both(18, false)},
		{6, "a mark too many", mark(17, true)},
		{6, "a record too many", record(17, true)},
		{6, "one who is jailed", both(17, true)},
		{6, "a mark of no validator", mark(20, true)},
		{6, "more than may be", bound(1)},
		{0, "fewer than may be", bound(3)},
		{0, "far fewer", bound(64)},
	})
	let := func(tokens uint64) func(*kv.Store) { // 17 isn't jailed and has so many tokens, with which it would come in
		return func(s *kv.Store) {
			changeVal(s, 17, func(v *api.Validator) { v.Jailed, v.Until, v.Tokens = false, 0, tokens })
			power.Put(s, 17, tokens)
		}
	}
	wantRules(t, grown, []fault{
		{9, "one who comes behind those who are bonded", let(149)},
		{6, "one who comes ahead of the last one", let(151)},
		{6, "one of as many tokens, with a lesser id", let(150)},
	})
}
