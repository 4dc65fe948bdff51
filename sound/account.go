package sound

import (
	"glean/api"
	"glean/bank"
	"glean/dec"
	"glean/kv"
	"glean/nat"
	"glean/rec"
)

// owed: what an account must have.
type owed struct{ sum api.Dec }

// accountsFit: rule 3.
func accountsFit(s *kv.Store) bool {
	for k, a := range records(s, api.KeyAccount, rec.Account) {
		if !isModule(k.A) && !isUser(k.A) || a == (api.Account{}) {
			return false
		}
	}
	return nat.Cmp(bank.Sum(s), nat.Of(api.MaxSupply)) <= 0
}

// coinsMatch: rule 10. Sums are Decs, as Tokens and Balances may pass 2^64 together.
func coinsMatch(s *kv.Store) bool {
	sums := map[uint64]owed{}
	owe := func(id uint64, more api.Dec) { sums[id] = owed{dec.Add(sums[id].sum, more)} }
	for _, v := range validators(s) {
		owe(house(v), dec.Of(v.Tokens))
		owe(api.Shared, v.Outstanding)
	}
	for _, u := range records(s, api.KeyUnbonding, rec.Unbonding) {
		owe(api.Loose, dec.Of(u.Balance))
	}
	pool, _ := record(s, api.Key{Kind: api.KeyPool}, rec.Pool) // no bytes are no record: what isn't there is 0
	owe(api.Shared, pool)
	for _, id := range []uint64{api.Bonded, api.Loose, api.Shared} {
		if dec.Cmp(dec.Of(bank.Get(s, id).Coins), sums[id].sum) != 0 {
			return false
		}
	}
	return true
}

// isModule tells whether an id is one of the engine's own accounts'.
func isModule(id uint64) bool { return id >= api.Collector && id <= api.Shared }

// isUser tells whether an id is a user's.
func isUser(id uint64) bool { return id >= api.FirstUser }

// house tells the account in which a validator's tokens lie.
func house(v api.Validator) uint64 {
	if v.Bonded {
		return api.Bonded
	}
	return api.Loose
}
