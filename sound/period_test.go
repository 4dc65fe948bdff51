package sound_test

import (
	"testing"

	"glean/api"
	"glean/bank"
	"glean/dec"
	"glean/dist"
	"glean/kv"
	"glean/rec"
)

// layHistory lays a history.
func layHistory(s *kv.Store, val, period uint64, ratio api.Dec, refs uint64) {
	s.Set(at(api.KeyHistory, val, period), rec.PutHistory(api.History{Ratio: ratio, Refs: refs}))
}

// P19.2, rule 7: each history has as many Refs as refer to it, and each one that is referred to is there.
func TestHistories(t *testing.T) {
	refs := func(val, period, n uint64) func(*kv.Store) {
		return func(s *kv.Store) { changeHistory(s, val, period, func(h *api.History) { h.Refs = n }) }
	}
	gone := func(val, period uint64) func(*kv.Store) {
		return func(s *kv.Store) { s.Delete(at(api.KeyHistory, val, period)) }
	}
	laid := func(val, period, n uint64) func(*kv.Store) {
		return func(s *kv.Store) { layHistory(s, val, period, api.Dec{}, n) }
	}
	wantRules(t, grown, []fault{
		{7, "the last one's Refs one greater", refs(16, 7, 3)},
		{7, "the last one's Refs one less", refs(16, 7, 1)},
		{7, "the last one's Refs 0", refs(16, 7, 0)},
		{7, "a delegation's one greater", refs(16, 5, 2)},
		{7, "a delegation's 0", refs(16, 5, 0)},
		{7, "a cut's, the last one, one greater", refs(17, 4, 3)},
		{7, "a cut's, the last one, one less", refs(17, 4, 1)},
		{7, "the greatest Refs", refs(18, 1, top)},
		{7, "the last one is missing", gone(16, 7)},
		{7, "a delegation's is missing", gone(16, 5)},
		{7, "a cut's is missing", gone(19, 2)},
		{7, "one to which nothing refers", laid(16, 4, 1)},
		{7, "one to which nothing refers, nor says so", laid(16, 4, 0)},
		{7, "one to which nothing refers, in the place of one that is missing", func(s *kv.Store) { gone(16, 5)(s); laid(16, 4, 0)(s) }},
		{7, "one of period 0", laid(16, 0, 1)},
		{7, "one of the period that isn't over", laid(16, 8, 1)},
		{7, "one of a late period", laid(16, 9, 1)},
		{7, "one of the last period of all", laid(16, top, 1)},
		{7, "a period more", func(s *kv.Store) { changeVal(s, 16, func(v *api.Validator) { v.Period++ }) }},
		{7, "a period less", func(s *kv.Store) { changeVal(s, 16, func(v *api.Validator) { v.Period-- }) }},
		{7, "a delegation of another period", func(s *kv.Store) { changeDelegation(s, 16, 20, func(d *api.Delegation) { d.Period = 6 }) }},
		{0, "a delegation of another period, and Refs", func(s *kv.Store) {
			changeDelegation(s, 16, 20, func(d *api.Delegation) { d.Period = 6 })
			gone(16, 5)(s)
			refs(16, 6, 2)(s)
		}},
		{7, "a delegation of another period, and one history that isn't asked for", func(s *kv.Store) {
			changeDelegation(s, 16, 20, func(d *api.Delegation) { d.Period = 4 })
		}},
	})
}

// P19.2, rule 7: a delegation or a cut of a period that isn't over breaks it, also with a history.
func TestLatePeriods(t *testing.T) {
	for _, period := range []uint64{2, 3, most, top} {
		wantRules(t, plain, []fault{
			{7, "a late delegation", func(s *kv.Store) {
				changeDelegation(s, 16, 16, func(d *api.Delegation) { d.Period = period })
				layHistory(s, 16, 1, api.Dec{}, 1)
				layHistory(s, 16, period, api.Dec{}, 1)
			}},
			{7, "a late cut", func(s *kv.Store) {
				s.Set(at(api.KeyCut, 16, period), rec.PutCut(api.Cut{Before: 20, After: 10}))
				layHistory(s, 16, period, api.Dec{}, 1)
			}},
		})
	}
	wantRules(t, plain, []fault{
		{0, "a cut of the last period, that of the delegation", func(s *kv.Store) {
			s.Set(at(api.KeyCut, 16, 1), rec.PutCut(api.Cut{Before: 20, After: 10}))
			layHistory(s, 16, 1, api.Dec{}, 3)
		}},
		{0, "a delegation of period 0, with a history", func(s *kv.Store) {
			changeDelegation(s, 16, 16, func(d *api.Delegation) { d.Period = 0 })
			layHistory(s, 16, 0, api.Dec{}, 1)
			layHistory(s, 16, 1, api.Dec{}, 1)
		}},
		{7, "a cut without a history", func(s *kv.Store) {
			s.Set(at(api.KeyCut, 16, 0), rec.PutCut(api.Cut{Before: 20, After: 10}))
		}},
		{7, "a cut that the history doesn't count", func(s *kv.Store) {
			s.Set(at(api.KeyCut, 16, 1), rec.PutCut(api.Cut{Before: 20, After: 10}))
		}},
		{7, "a history that isn't asked for, in the place of one that is", func(s *kv.Store) {
			changeDelegation(s, 16, 16, func(d *api.Delegation) { d.Period = 0 })
			layHistory(s, 16, 1, api.Dec{}, 1)
			lastPeriod(5)(s)
		}},
	})
}

// P19.2, rule 7: ratios don't fall, each validator's by themselves, and are at most 10^60.
func TestRatios(t *testing.T) {
	ratio := func(val, period uint64, d api.Dec) func(*kv.Store) {
		return func(s *kv.Store) { changeHistory(s, val, period, func(h *api.History) { h.Ratio = d }) }
	}
	first := parsed("0.117276923076923076923076923076923076") // that of 16's periods 5 and 6
	wantRules(t, grown, []fault{
		{7, "a fall", ratio(16, 6, less(first, parsed(hair)))},
		{7, "another fall", ratio(16, 5, dec.Add(first, parsed(hair)))},
		{7, "a fall to 0", ratio(16, 7, api.Dec{})},
		{0, "a rise", ratio(16, 6, dec.Add(first, parsed(hair)))},
		{9, "a rise that isn't paid for", ratio(16, 7, dec.Of(1))},
		{0, "lower ones of the next validator", ratio(17, 1, parsed(hair))},
		{0, "the first ratio isn't 0", ratio(18, 1, dec.Of(7))},
		{0, "a ratio at the bound", ratio(18, 1, tenTo(60))},
		{7, "one past it", ratio(18, 1, dec.Add(tenTo(60), parsed(hair)))},
		{9, "a rise to the bound", ratio(16, 7, tenTo(60))},
		{7, "a rise past it", ratio(16, 7, dec.Add(tenTo(60), parsed(hair)))},
	})
}

// P19.2, rule 8: what a cut leaves is less, and what there was at most all coins.
func TestCuts(t *testing.T) {
	cut := func(before, after uint64) func(*kv.Store) {
		return func(s *kv.Store) { s.Set(at(api.KeyCut, 17, 4), rec.PutCut(api.Cut{Before: before, After: after})) }
	}
	wantRules(t, grown, []fault{
		{8, "nothing was cut", cut(230, 230)},
		{8, "more than there was", cut(230, 231)},
		{8, "nothing of nothing", cut(0, 0)},
		{8, "the most of all", cut(0, top)},
		{0, "all of it", cut(230, 0)},
		{0, "of all coins", cut(supply, 1)},
		{8, "of one more", cut(supply+1, 1)},
		{8, "of the most of all", cut(top, 0)},
		{9, "one of all coins", cut(supply, supply-1)},
	})
	s := grown()
	changeCut(s, 19, 2, func(c *api.Cut) { c.After = c.Before })
	wantRule(t, "a cut of the last validator", s, 8)
}

// P19.2, rule 9: a stake, brought behind the cuts, isn't above what the shares are worth.
func TestStakes(t *testing.T) {
	stake := func(val, del uint64, text string) func(*kv.Store) {
		return func(s *kv.Store) { changeDelegation(s, val, del, func(d *api.Delegation) { d.Stake = parsed(text) }) }
	}
	tokens := func(n uint64) func(*kv.Store) { // of 17, who is jailed
		return func(s *kv.Store) {
			changeVal(s, 17, func(v *api.Validator) { v.Tokens = n })
			layAccount(s, 3, api.Account{Coins: 339 - 207 + n})
		}
	}
	wantRules(t, plain, []fault{
		{0, "a hair less", stake(16, 16, "9.999999999999999999999999999999999999")},
		{0, "none", stake(16, 16, "0")},
		{9, "a hair more", stake(16, 16, "10.000000000000000000000000000000000001")},
		{9, "far more", stake(16, 16, "100000000000000000000000000000000000000000")},
	})
	// Behind the cut of a tenth, a hair more is a hair more by half at most, which is rounded away.
	wantRules(t, grown, []fault{
		{0, "a hair more, ahead of a cut", stake(17, 17, "200.000000000000000000000000000000000001")},
		{9, "two hairs more, ahead of a cut", stake(17, 17, "200.000000000000000000000000000000000002")},
		{9, "a hair more, without a cut", stake(18, 18, "150.000000000000000000000000000000000001")},
		{9, "a token more, ahead of a cut", stake(17, 21, "31")},
		{0, "less, ahead of a cut", stake(17, 21, "29")},
		{0, "a token more of the validator's", tokens(208)},
		{9, "a token fewer", tokens(206)},
		{9, "none left", tokens(0)},
		{9, "fewer shares, as many of another delegator", func(s *kv.Store) {
			changeDelegation(s, 17, 17, func(d *api.Delegation) { d.Shares = dec.Of(199) })
			changeDelegation(s, 17, 21, func(d *api.Delegation) { d.Shares = dec.Of(31) })
		}},
	})
}

// P19.2, rule 9: cuts of periods up to the delegation's own don't count, those above do.
func TestCutsThatCount(t *testing.T) {
	// The validator has periods 1 to 4 behind it, a cut by half in each of 2 and 3; the delegation is of a period, with a stake.
	with := func(period uint64, stake string) func(*kv.Store) {
		return func(s *kv.Store) {
			changeVal(s, 16, func(v *api.Validator) { v.Period = 5 })
			s.Delete(at(api.KeyHistory, 16, 1))
			for p := uint64(2); p <= 3; p++ {
				s.Set(at(api.KeyCut, 16, p), rec.PutCut(api.Cut{Before: 20, After: 10}))
				layHistory(s, 16, p, api.Dec{}, 1)
			}
			layHistory(s, 16, 4, api.Dec{}, 1)
			refs := map[uint64]uint64{1: 1, 2: 2, 3: 2, 4: 2}[period]
			layHistory(s, 16, period, api.Dec{}, refs)
			changeDelegation(s, 16, 16, func(d *api.Delegation) { d.Period, d.Stake = period, parsed(stake) })
		}
	}
	wantRules(t, plain, []fault{
		{0, "ahead of both", with(1, "40")},
		{9, "ahead of both, too great", with(1, "40.000000000000000000000000000000000004")},
		{0, "ahead of both, rounded away", with(1, "40.000000000000000000000000000000000003")},
		{0, "at the first one", with(2, "20")},
		{9, "at the first one, too great", with(2, "20.000000000000000000000000000000000002")},
		{0, "at the second one", with(3, "10")},
		{9, "at the second one, too great", with(3, "10.000000000000000000000000000000000001")},
		{0, "behind both", with(4, "10")},
		{9, "behind both, too great", with(4, "10.000000000000000000000000000000000001")},
	})
}

// owing has a plain state's validator, of 10 tokens, have closed two periods, the second one with a ratio; its delegation of 10 shares has a stake, of the first one; so much is outstanding, and the pool has what is left of as many coins.
func owing(ratio, stake, outstanding string) func(*kv.Store) {
	return func(s *kv.Store) {
		changeVal(s, 16, func(v *api.Validator) { v.Period, v.Outstanding = 3, parsed(outstanding) })
		layHistory(s, 16, 1, api.Dec{}, 1)
		layHistory(s, 16, 2, parsed(ratio), 1)
		changeDelegation(s, 16, 16, func(d *api.Delegation) { d.Stake = parsed(stake) })
		bank.Mint(s, api.Shared, 1000)
		dist.Pour(s, less(dec.Of(1000), parsed(outstanding)))
	}
}

// P19.2, rule 9: what is owed is outstanding; no product of a stake and a difference of ratios is rounded.
func TestClaims(t *testing.T) {
	wantRules(t, plain, []fault{
		{0, "as much as is owed", owing("2.5", "10", "25")},
		{9, "a hair less", owing("2.5", "10", "24.999999999999999999999999999999999999")},
		{0, "more", owing("2.5", "10", "26")},
		{9, "nothing", owing("2.5", "10", "0")},
		{0, "nothing of nothing", owing("0", "10", "0")},
		{0, "nothing of no stake", owing("2.5", "0", "0")},
		{9, "half a hair is owed, nothing outstanding", owing(hair, "0.5", "0")},
		{0, "half a hair is owed, a hair outstanding", owing(hair, "0.5", hair)},
		{9, "a hair of a hair is owed, nothing outstanding", owing(hair, hair, "0")},
		{9, "a hair and a half is owed, a hair outstanding", owing(hair, "1.5", hair)},
		{0, "a hair is owed, a hair outstanding", owing(hair, "1", hair)},
	})
	split := func(first, second, outstanding string) func(*kv.Store) { // two delegations, each of half the shares
		return func(s *kv.Store) {
			owing(hair, first, outstanding)(s)
			changeDelegation(s, 16, 16, func(d *api.Delegation) { d.Shares = dec.Of(5) })
			s.Set(at(api.KeyDelegation, 16, 17), rec.PutDelegation(api.Delegation{Shares: dec.Of(5), Period: 1, Stake: parsed(second)}))
			s.Set(at(api.KeyHolds, 17, 16), nil)
			changeHistory(s, 16, 1, func(h *api.History) { h.Refs = 2 })
		}
	}
	wantRules(t, plain, []fault{
		{0, "two halves of a hair", split("0.5", "0.5", hair)},
		{9, "two halves of a hair, and a little more", split("0.5", "0.500000000000000000000000000000000001", hair)},
		{9, "two halves of a hair, nothing outstanding", split("0.5", "0.5", "0")},
		{0, "two halves, a little less", split("0.5", "0.499999999999999999999999999999999999", hair)},
	})
}

// P19.2, rule 9: Commission and Current count, too.
func TestCommissionAndCurrent(t *testing.T) {
	with := func(commission, current, outstanding string) func(*kv.Store) {
		return func(s *kv.Store) {
			owing("0.5", "10", outstanding)(s)
			changeVal(s, 16, func(v *api.Validator) { v.Commission, v.Current = parsed(commission), parsed(current) })
		}
	}
	wantRules(t, plain, []fault{
		{0, "just covered", with("1.25", "2.5", "8.75")},
		{9, "a hair too little", with("1.25", "2.5", "8.749999999999999999999999999999999999")},
		{9, "a hair more of commission", with("1.250000000000000000000000000000000001", "2.5", "8.75")},
		{9, "a hair more of the current period", with("1.25", "2.500000000000000000000000000000000001", "8.75")},
		{0, "commission alone", with("3.75", "0", "8.75")},
		{0, "the current period alone", with("0", "3.75", "8.75")},
		{9, "commission alone, too much", with("3.750000000000000000000000000000000001", "0", "8.75")},
	})
	s := grown()
	changeVal(s, 17, func(v *api.Validator) { v.Commission, v.Current = v.Outstanding, api.Dec{} })
	wantRule(t, "commission in the place of claims", s, 9)
}

// P19.2, rule 9: the stakes are rounded, at each cut: a third of a token, thrice, is a hair less than a token.
func TestStakesAreRounded(t *testing.T) {
	with := func(outstanding string) func(*kv.Store) {
		return func(s *kv.Store) { // history 1: 0; 2: 1, with a cut to a third; 3: 4
			owing("1", "1", outstanding)(s)
			changeVal(s, 16, func(v *api.Validator) { v.Period = 4 })
			s.Set(at(api.KeyCut, 16, 2), rec.PutCut(api.Cut{Before: 3, After: 1}))
			layHistory(s, 16, 3, dec.Of(4), 1)
		}
	}
	wantRules(t, plain, []fault{
		{0, "what is owed by the rounded stake", with("1.999999999999999999999999999999999999")},
		{9, "a hair less", with("1.999999999999999999999999999999999998")},
		{0, "what would be owed by a third", with("2")},
	})
}
