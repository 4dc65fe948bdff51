package genesis

import (
	"slices"

	"glean/api"
	"glean/bank"
	"glean/kv"
	"glean/sound"
	"glean/stake"
)

// fault tells why no chain can begin so, as far as that shows without a store.
func fault(g api.Genesis) api.Errno {
	switch {
	case !sound.Params(g.Params):
		return api.ErrGenParams
	case !rise(g.Accounts, idOf) || slices.ContainsFunc(g.Accounts, isEmpty):
		return api.ErrGenAccount
	case !fit(g.Accounts):
		return api.ErrGenSupply
	case !rise(g.Vals, opOf):
		return api.ErrGenVal
	}
	return api.OK
}

// begin makes the store of a genesis without a fault, if each validator can be created.
func begin(g api.Genesis) (*kv.Store, api.Errno) {
	s := kv.New()
	stake.SetParams(s, g.Params)
	stake.SetChain(s, api.Chain{Next: 1})
	for _, p := range g.Accounts {
		bank.Mint(s, p.Id, p.Coins) // it isn't refused: users alone, with no more coins than there may be
	}
	for _, f := range g.Vals {
		if _, e := stake.Create(s, f.Op, f.Rate, f.Tokens); e != api.OK {
			return nil, api.ErrGenVal
		}
	}
	stake.Elect(s)
	return s, api.OK
}

// rise tells whether all ids are users', each one above the one ahead of it.
func rise[T any](list []T, id func(T) uint64) bool {
	ahead := uint64(api.FirstUser - 1)
	for _, x := range list {
		if id(x) <= ahead {
			return false
		}
		ahead = id(x)
	}
	return true
}

func idOf(p api.Purse) uint64 { return p.Id }

func opOf(f api.Founder) uint64 { return f.Op }

func isEmpty(p api.Purse) bool { return p.Coins == 0 }

// fit tells whether all coins together are no more than there may be; it asks what is left for each one, as their sum may pass 2^64.
func fit(list []api.Purse) bool {
	left := uint64(api.MaxSupply)
	for _, p := range list {
		if p.Coins > left {
			return false
		}
		left -= p.Coins
	}
	return true
}
