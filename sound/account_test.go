package sound_test

import (
	"testing"

	"glean/api"
	"glean/bank"
	"glean/dec"
	"glean/dist"
	"glean/kv"
	"glean/rec"
)

// P19.2, rule 3: whose accounts may be, and what lies of them.
func TestAccounts(t *testing.T) {
	for id, rule := range map[uint64]int{0: 3, 1: 0, 5: 3, 6: 3, 15: 3, 16: 0, 17: 0, 255: 0, 256: 0, 1 << 63: 0, top: 0} {
		for _, a := range []api.Account{{Coins: 1}, {Seq: 1}, {Coins: 7, Seq: top}} {
			s := plain()
			layAccount(s, id, a)
			wantRule(t, "an account", s, rule)
		}
		s := plain()
		layAccount(s, id, api.Account{})
		wantRule(t, "an account without anything", s, 3)
	}
	wantRules(t, plain, []fault{
		{0, "sequences of the engine's own accounts", func(s *kv.Store) {
			for id := uint64(1); id <= 4; id++ {
				layAccount(s, id, api.Account{Coins: bank.Get(s, id).Coins, Seq: 1})
			}
		}},
		{0, "no account of a validator or a delegator", func(s *kv.Store) { s.Delete(at(api.KeyAccount, 16)) }},
	})
}

// P19.2, rule 3: all coins together, at the bound and past it, also past 2^64.
func TestAllCoins(t *testing.T) {
	has := func(purses ...uint64) func(*kv.Store) {
		return func(s *kv.Store) {
			s.Delete(at(api.KeyAccount, 16)) // 10 lie in the house of the validator
			for i, n := range purses {
				layAccount(s, 100+uint64(i), api.Account{Coins: n})
			}
		}
	}
	wantRules(t, plain, []fault{
		{0, "all coins", has(supply - 10)},
		{3, "one more", has(supply - 9)},
		{0, "all coins, in two", has(supply/2, supply/2-10)},
		{3, "one more, in two", has(supply/2, supply/2-9)},
		{3, "an account of more", has(supply + 1)},
		{3, "the most of all", has(top)},
		{3, "2^64 together", has(1<<63, 1<<63-10)},
		{3, "2^64 and one together", has(1<<63, 1<<63-9)},
		{3, "thrice the most of all", has(top, top, top)},
	})
}

// P19.2, rule 10: each house has what is bound there, no coin more or less.
func TestHouses(t *testing.T) {
	coins := func(id uint64, by uint64) func(*kv.Store) {
		return func(s *kv.Store) { layAccount(s, id, api.Account{Coins: bank.Get(s, id).Coins + by}) }
	}
	tokens := func(id uint64, by uint64) func(*kv.Store) {
		return func(s *kv.Store) { changeVal(s, id, func(v *api.Validator) { v.Tokens += by }) }
	}
	wantRules(t, grown, []fault{
		{10, "one more with Bonded", coins(2, 1)},
		{10, "one fewer with Bonded", coins(2, top)},
		{10, "one more with Loose", coins(3, 1)},
		{10, "one fewer with Loose", coins(3, top)},
		{10, "one more with Shared", coins(4, 1)},
		{10, "one fewer with Shared", coins(4, top)},
		{0, "some with Collector", coins(1, 5)},
		{0, "one more with a user", coins(16, 1)},
		{10, "a token from the one house to the other one", func(s *kv.Store) { bank.Move(s, api.Bonded, api.Loose, 1) }},
		{10, "a coin of the pool's in a house", func(s *kv.Store) { bank.Move(s, api.Shared, api.Loose, 1) }},
		{10, "nothing with Loose", func(s *kv.Store) { s.Delete(at(api.KeyAccount, 3)) }},
		{10, "a token more of who is jailed", tokens(17, 1)},
		{0, "a token more of who is jailed, and of Loose", func(s *kv.Store) { tokens(17, 1)(s); coins(3, 1)(s) }},
		{10, "a token more of who is jailed, and of Bonded", func(s *kv.Store) { tokens(17, 1)(s); coins(2, 1)(s) }},
		{10, "a balance one less", func(s *kv.Store) { changeUnbonding(s, 1, func(u *api.Unbonding) { u.Balance-- }) }},
		{0, "a balance one less, and Loose", func(s *kv.Store) {
			changeUnbonding(s, 1, func(u *api.Unbonding) { u.Balance-- })
			coins(3, top)(s)
		}},
		{0, "a balance of 0, and Loose", func(s *kv.Store) {
			changeUnbonding(s, 3, func(u *api.Unbonding) { u.Balance = 0 })
			coins(3, top-6)(s)
		}},
		{0, "a move of fewer, as it counts for no house", func(s *kv.Store) { changeMove(s, 2, func(m *api.Move) { m.Initial-- }) }},
	})
}

// P19.2, rule 10: Tokens and Balances that sum to a house's coins modulo 2^64 alone.
func TestHousesDontGoRound(t *testing.T) {
	wantRules(t, grown, []fault{
		{10, "tokens of 2^64 - 1 of who is jailed", func(s *kv.Store) {
			changeVal(s, 17, func(v *api.Validator) { v.Tokens = top })
			layAccount(s, 3, api.Account{Coins: 339 - 208})
		}},
		{10, "balances of 2^64 together", func(s *kv.Store) {
			changeUnbonding(s, 1, func(u *api.Unbonding) { u.Balance = 1<<63 + 30 })
			changeUnbonding(s, 3, func(u *api.Unbonding) { u.Balance = 1<<63 + 7 })
		}},
	})
}

// P19.2, rule 10: Shared's coins are the pool and all Outstanding, to the last place.
func TestSharedCoins(t *testing.T) {
	pour := func(s *kv.Store, text string) { dist.Pour(s, parsed(text)) }
	more := func(id uint64, text string) func(*kv.Store) {
		return func(s *kv.Store) {
			changeVal(s, id, func(v *api.Validator) { v.Outstanding = dec.Add(v.Outstanding, parsed(text)) })
		}
	}
	wantRules(t, grown, []fault{
		{10, "a hair more of the pool", func(s *kv.Store) { pour(s, hair) }},
		{10, "a coin more of the pool", func(s *kv.Store) { pour(s, "1") }},
		{0, "a coin more of the pool, and of Shared", func(s *kv.Store) { pour(s, "1"); bank.Mint(s, api.Shared, 1) }},
		{10, "a hair more that is outstanding", more(16, hair)},
		{10, "a hair more of one that owes nothing", more(19, hair)},
		{0, "a hair more that is outstanding, and less of the pool", func(s *kv.Store) {
			more(16, hair)(s)
			s.Set(at(api.KeyPool), rec.PutPool(less(dist.Pool(s), parsed(hair))))
		}},
		{0, "all of the pool is outstanding", func(s *kv.Store) {
			more(19, dec.Text(dist.Pool(s)))(s)
			s.Delete(at(api.KeyPool))
		}},
		{10, "2^64 coins more of the pool", func(s *kv.Store) { pour(s, "18446744073709551616") }},
	})
	wantRules(t, plain, []fault{
		{10, "a coin of nobody", func(s *kv.Store) { bank.Mint(s, api.Shared, 1) }},
		{0, "a coin of the pool", func(s *kv.Store) { bank.Mint(s, api.Shared, 1); pour(s, "1") }},
		{10, "a pool of no coin", func(s *kv.Store) { pour(s, hair) }},
	})
}
