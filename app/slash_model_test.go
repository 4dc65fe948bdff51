package app_test

import (
	"math/big"
	"slices"

	"glean/api"
)

// part tells what share.Cut must.
func part(n, parts uint64) uint64 {
	return low(whole(n), whole(min(parts, 10000)), big.NewInt(10000)).Uint64()
}

// spend has coins go to Shared and the pool.
func (b *book) spend(from, n uint64) {
	b.must(from, shared, n)
	b.pour(coins(n))
}

// refusal tells why Fault refuses.
func (b *book) refusal(kind int, val, height uint64) api.Errno {
	v, there := b.vals[val]
	_, tomb := b.tombs[val]
	now := b.stand().Height
	switch {
	case kind < 1 || kind > 2:
		return 160
	case !there:
		return 161
	case height > now || now-height > b.param().Age:
		return 162
	case tomb:
		return 163
	case kind == 2 && v.Jailed:
		return 164
	}
	return 0
}

// fault does what Fault must.
func (b *book) fault(kind int, val, height uint64) ([]api.Paid, uint64, api.Errno) {
	if e := b.refusal(kind, val, height); e != 0 {
		return nil, 0, e
	}
	v, parts, until := b.vals[val], b.param().Down, b.stand().Height+b.param().Jail
	if kind == 1 {
		parts, until = b.param().Double, top
		b.tombs[val] = height
	}
	n := part(v.Tokens, parts)
	if n > 0 {
		v = b.close(val, v)
		b.cuts[place{val, v.Period - 1}] = api.Cut{Before: v.Tokens, After: v.Tokens - n}
		b.refer(val, v.Period-1, 1)
		v.Tokens -= n
		b.spend(house(v), n)
	}
	v.Jailed, v.Until = true, until
	b.vals[val] = v
	var told []api.Paid
	for _, id := range b.from(val) {
		c, paid := b.clip(id, height, parts)
		n += c
		told = append(told, paid...)
	}
	return told, n, 0
}

// from tells the numbers of all that left a validator, rising.
func (b *book) from(val uint64) []uint64 {
	var ids []uint64
	for id, u := range b.unbondings {
		if u.Val == val {
			ids = append(ids, id)
		}
	}
	for id, m := range b.moves {
		if m.Src == val {
			ids = append(ids, id)
		}
	}
	slices.Sort(ids)
	return ids
}

// clip cuts an entry that didn't leave below that height, and tells the coins, and what was paid.
func (b *book) clip(id, height, parts uint64) (uint64, []api.Paid) {
	u, is := b.unbondings[id]
	if is && u.Height >= height {
		c := min(part(u.Initial, parts), u.Balance)
		u.Balance -= c
		b.unbondings[id] = u
		b.spend(loose, c)
		return c, nil
	}
	if m, is := b.moves[id]; is && m.Height >= height {
		return b.clipMove(id, m, parts)
	}
	return 0, nil
}

// clipMove cuts a move.
func (b *book) clipMove(id uint64, m api.Move, parts uint64) (uint64, []api.Paid) {
	v, isVal := b.vals[m.Dst]
	d, isDelegation := b.dels[pair{m.Dst, m.Del}]
	if !isVal || !isDelegation || v.Tokens == 0 {
		return 0, nil
	}
	x := high(value(v.Shares), whole(min(part(m.Initial, parts), v.Tokens)), whole(v.Tokens))
	for _, most := range []*big.Int{value(m.Shares), value(d.Shares)} {
		if x.Cmp(most) > 0 {
			x = most
		}
	}
	if x.Sign() == 0 {
		return 0, nil
	}
	m.Shares = decOf(fall(value(m.Shares), x))
	b.moves[id] = m
	r, paid, _ := b.take(m.Dst, m.Del, x)
	b.spend(house(v), r)
	return r, []api.Paid{paid}
}

// unjail does what Unjail must.
func (b *book) unjail(val uint64) api.Errno {
	v, there := b.vals[val]
	_, tomb := b.tombs[val]
	switch {
	case !there:
		return 161
	case !v.Jailed:
		return 165
	case tomb:
		return 163
	case b.stand().Height < v.Until:
		return 166
	}
	v.Jailed, v.Until = false, 0
	b.vals[val] = v
	return 0
}
