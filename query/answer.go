package query

import (
	"glean/api"
	"glean/bank"
	"glean/dec"
	"glean/dist"
	"glean/keys"
	"glean/kv"
	"glean/nat"
	"glean/power"
	"glean/queue"
	"glean/stake"
)

func account(s *kv.Store, id uint64) api.Answer {
	a := bank.Get(s, id)
	return api.Answer{N: []uint64{a.Coins, a.Seq}}
}

func validator(s *kv.Store, id uint64) (api.Answer, bool) {
	v, there := dist.Val(s, id)
	return api.Answer{
		N: []uint64{v.Rate, v.Tokens, number(v.Jailed), v.Until, number(v.Bonded), v.Period},
		D: []api.Dec{v.Shares, v.Current, v.Outstanding, v.Commission},
	}, there
}

func delegation(s *kv.Store, val, del uint64) (api.Answer, bool) {
	v, isVal := dist.Val(s, val)
	d, isDelegation := dist.Delegation(s, val, del)
	return api.Answer{N: []uint64{worth(v, d)}, D: []api.Dec{d.Shares}}, isVal && isDelegation
}

func bonded(s *kv.Store) api.Answer { return api.Answer{N: power.Bonded(s)} }

func pool(s *kv.Store) api.Answer { return api.Answer{D: []api.Dec{dist.Pool(s)}} }

func from(s *kv.Store, val uint64) api.Answer { return api.Answer{Entries: queue.From(s, val)} }

func holds(s *kv.Store, del uint64) api.Answer {
	var all []uint64
	begin, _ := keys.Under(api.KeyHolds, del) // a kind that uses B is never refused
	for b := range s.Prefix(begin) {
		k, _ := keys.Read(b)
		all = append(all, k.B)
	}
	return api.Answer{N: all}
}

func chain(s *kv.Store) api.Answer {
	c := stake.Chain(s)
	return api.Answer{N: []uint64{c.Height, c.Next}}
}

func unbonding(s *kv.Store, id uint64) (api.Answer, bool) {
	u, there := queue.Unbonding(s, id)
	return api.Answer{N: []uint64{u.Del, u.Val, u.Height, u.Due, u.Initial, u.Balance}}, there
}

func move(s *kv.Store, id uint64) (api.Answer, bool) {
	m, there := queue.Moving(s, id)
	return api.Answer{N: []uint64{m.Del, m.Src, m.Dst, m.Height, m.Due, m.Initial}, D: []api.Dec{m.Shares}}, there
}

// worth tells the tokens for all shares of a delegation: what share.Redeem tells of a sound state, where no delegation has more than all of them; this layer doesn't call that one.
func worth(v api.Validator, d api.Delegation) uint64 {
	tokens, _ := dec.MulDiv(dec.Of(v.Tokens), d.Shares, v.Shares)
	whole, _ := dec.Trunc(tokens)
	n, _ := nat.Small(whole)
	return n
}

// number tells 1 for true, else 0.
func number(b bool) uint64 {
	if b {
		return 1
	}
	return 0
}
