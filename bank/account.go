package bank

import (
	"iter"

	"glean/api"
	"glean/keys"
	"glean/kv"
	"glean/nat"
	"glean/rec"
)

// isAccount tells whether an id is a module's or a user's.
func isAccount(id uint64) bool {
	return id >= api.Collector && id <= api.Shared || id >= api.FirstUser
}

// holds tells whether an account may have n coins more; n is held against what is left up to the bound, as a sum could pass 2^64.
func holds(a api.Account, n uint64) bool {
	return a.Coins <= api.MaxSupply && n <= api.MaxSupply-a.Coins
}

// key tells where an account's record lies; a kind that there is has a key for each id.
func key(id uint64) []byte {
	k, _ := keys.Make(api.Key{Kind: api.KeyAccount, A: id})
	return k
}

// lay lays an account's record; nothing lies there of one that has nothing and has done nothing, so that a state has one spelling.
func lay(s *kv.Store, id uint64, a api.Account) {
	if a == (api.Account{}) {
		s.Delete(key(id))
		return
	}
	s.Set(key(id), rec.PutAccount(a))
}

// coins gives the coins of each account, in the order of their ids.
func coins(s *kv.Store) iter.Seq[uint64] {
	return func(yield func(uint64) bool) {
		accounts, _ := keys.Of(api.KeyAccount)
		for _, b := range s.Prefix(accounts) {
			a, _ := rec.Account(b)
			if !yield(a.Coins) {
				return
			}
		}
	}
}

// total folds what it is given to one sum; a Nat, as all coins of accounts may be more than a uint64 holds.
func total(each iter.Seq[uint64]) api.Nat {
	sum := nat.Of(0)
	for n := range each {
		sum = nat.Add(sum, nat.Of(n))
	}
	return sum
}
