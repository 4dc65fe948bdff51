package slash

import (
	"glean/api"
	"glean/dec"
	"glean/dist"
	"glean/kv"
	"glean/queue"
	"glean/share"
	"glean/stake"
)

// entry: what has left a validator and is still under way, so that a fault from before it left cuts it, too.
type entry interface {
	since() uint64                                      // the height at which it left
	cut(s *kv.Store, parts uint64) (uint64, []api.Paid) // the coins that were cut, and what was paid for that
}

// unbonding: coins on their way back.
type unbonding struct {
	id uint64
	api.Unbonding
}

// move: shares of another validator, for coins that left this one.
type move struct {
	id uint64
	api.Move
}

// chase cuts all that left a validator at a height or later, and tells what was paid, and the coins that were cut.
func chase(s *kv.Store, val, height, parts uint64) (paid []api.Paid, n uint64) {
	for _, told := range queue.From(s, val) {
		e := find(s, told)
		if e.since() < height {
			continue
		}
		coins, more := e.cut(s, parts)
		n += coins
		paid = append(paid, more...)
	}
	return paid, n
}

// find tells an entry as it lies.
func find(s *kv.Store, told api.Entry) entry {
	if told.Kind == api.KeyUnbonding {
		u, _ := queue.Unbonding(s, told.Id)
		return unbonding{told.Id, u}
	}
	m, _ := queue.Moving(s, told.Id)
	return move{told.Id, m}
}

func (u unbonding) since() uint64 { return u.Height }

// cut cuts by what there was at first, as long as something of it is left.
func (u unbonding) cut(s *kv.Store, parts uint64) (uint64, []api.Paid) {
	n := min(share.Cut(u.Initial, parts), u.Balance)
	queue.Less(s, u.id, u.Balance-n)
	dist.Fund(s, api.Loose, n)
	return n, nil
}

func (m move) since() uint64 { return m.Height }

// cut takes shares away where the coins went to, if somebody has them there still.
func (m move) cut(s *kv.Store, parts uint64) (uint64, []api.Paid) {
	v, isVal := dist.Val(s, m.Dst)
	d, isDelegation := dist.Delegation(s, m.Dst, m.Del)
	if !isVal || !isDelegation {
		return 0, nil
	}
	x := m.lost(v, d, share.Cut(m.Initial, parts))
	if dec.Zero(x) {
		return 0, nil
	}
	left, _ := dec.Sub(m.Shares, x)
	queue.Fewer(s, m.id, left)
	n, paid, _ := stake.Take(s, m.Dst, m.Del, x)
	dist.Fund(s, house(v), n) // of v as it was ahead: behind Take there may be no validator to ask
	return n, []api.Paid{paid}
}

// lost tells the shares that so many coins take; never more than were moved, nor than there are.
func (m move) lost(v api.Validator, d api.Delegation, n uint64) api.Dec {
	x, _ := share.Need(v.Tokens, v.Shares, min(n, v.Tokens)) // refused just if there are no tokens: 0
	return least(least(x, m.Shares), d.Shares)
}

// least tells the lesser one of both.
func least(a, b api.Dec) api.Dec {
	if dec.Cmp(a, b) > 0 {
		return b
	}
	return a
}
