package app_test

import (
	"cmp"
	"maps"
	"math/big"
	"slices"

	"glean/api"
)

// house tells where a validator's tokens lie.
func house(v api.Validator) uint64 {
	if v.Bonded {
		return bonded
	}
	return loose
}

// issue tells what share.Issue must.
func issue(v api.Validator, t uint64) (*big.Int, api.Errno) {
	shares := value(v.Shares)
	switch {
	case t == 0:
		return nil, 101
	case shares.Sign() == 0:
		return coins(t), 0
	case v.Tokens == 0:
		return nil, 100
	}
	z := low(shares, whole(t), whole(v.Tokens))
	switch {
	case z.Sign() == 0:
		return nil, 101
	case sum(z, shares).Cmp(most) > 0:
		return nil, 103
	}
	return z, 0
}

// redeem tells what share.Redeem must, of x at most all shares.
func redeem(v api.Validator, x *big.Int) uint64 {
	if x.Cmp(value(v.Shares)) == 0 {
		return v.Tokens
	}
	return low(x, whole(v.Tokens), value(v.Shares)).Uint64()
}

// wanted tells the wanted shares (P15.6).
func wanted(v api.Validator, d api.Delegation, t uint64) (*big.Int, api.Errno) {
	if t == 0 {
		return value(d.Shares), 0
	}
	switch {
	case t > v.Tokens:
		return nil, 102
	case v.Tokens == 0:
		return nil, 100
	}
	x := high(value(v.Shares), whole(t), whole(v.Tokens))
	if x.Cmp(value(d.Shares)) > 0 {
		return nil, 154
	}
	return x, 0
}

// join does what P15.2 says.
func (b *book) join(id uint64, v api.Validator, del, t uint64, z *big.Int) api.Paid {
	paid := api.Paid{Val: id, Del: del}
	d, there := b.dels[pair{id, del}]
	if there {
		v, paid = b.settle(id, v, del)
	} else {
		v = b.close(id, v)
	}
	v.Tokens += t
	v.Shares = decOf(sum(value(v.Shares), z))
	return b.hold(id, v, del, sum(value(d.Shares), z), paid)
}

// create does what Create must.
func (b *book) create(op, rate, t uint64) (api.Dec, api.Errno) {
	_, there := b.vals[op]
	_, tomb := b.tombs[op]
	switch {
	case there:
		return api.Dec{}, 151
	case tomb:
		return api.Dec{}, 157
	case rate > 10000:
		return api.Dec{}, 152
	case t == 0:
		return api.Dec{}, 153
	}
	if e := b.move(op, loose, t); e != 0 {
		return api.Dec{}, e
	}
	b.pasts[place{op, 0}] = past{new(big.Int), 1}
	b.join(op, api.Validator{Rate: rate, Period: 1}, op, t, coins(t))
	return decOf(coins(t)), 0
}

// delegate does what Delegate must.
func (b *book) delegate(val, del, t uint64) (api.Dec, api.Paid, api.Errno) {
	v, there := b.vals[val]
	if !there {
		return api.Dec{}, api.Paid{}, 150
	}
	if t == 0 {
		return api.Dec{}, api.Paid{}, 153
	}
	z, e := issue(v, t)
	if e != 0 {
		return api.Dec{}, api.Paid{}, e
	}
	if e = b.move(del, house(v), t); e != 0 {
		return api.Dec{}, api.Paid{}, e
	}
	return decOf(z), b.join(val, v, del, t, z), 0
}

// take does what Take must.
func (b *book) take(val, del uint64, x *big.Int) (uint64, api.Paid, api.Errno) {
	v, isVal := b.vals[val]
	d, isDelegation := b.dels[pair{val, del}]
	switch {
	case !isVal || !isDelegation:
		return 0, api.Paid{}, 150
	case x.Sign() == 0:
		return 0, api.Paid{}, 153
	case x.Cmp(value(d.Shares)) > 0:
		return 0, api.Paid{}, 154
	}
	v, paid := b.settle(val, v, del)
	r, left := redeem(v, x), fall(value(d.Shares), x)
	v.Tokens -= r
	v.Shares = decOf(fall(value(v.Shares), x))
	if left.Sign() > 0 {
		return r, b.hold(val, v, del, left, paid), 0
	}
	delete(b.dels, pair{val, del})
	b.vals[val] = v
	if len(v.Shares.Raw) == 0 {
		b.end(val)
		return r, paid, 0
	}
	paid.Tokens, paid.Shares = v.Tokens, v.Shares
	return r, paid, 0
}

// end does what P15.5 says of a validator that ends.
func (b *book) end(id uint64) {
	v := b.vals[id]
	pay := new(big.Int).Quo(value(v.Commission), scale).Uint64()
	b.must(shared, id, pay)
	b.pour(fall(value(v.Outstanding), coins(pay)))
	delete(b.vals, id)
	maps.DeleteFunc(b.dels, func(p pair, _ api.Delegation) bool { return p.val == id })
	maps.DeleteFunc(b.pasts, func(p place, _ past) bool { return p.id == id })
	maps.DeleteFunc(b.cuts, func(p place, _ api.Cut) bool { return p.id == id })
}

// leaving tells the wanted shares of a pair, or what P15.7 and P15.8 refuse alike.
func (b *book) leaving(val, del, t uint64) (*big.Int, api.Errno) {
	v, isVal := b.vals[val]
	d, isDelegation := b.dels[pair{val, del}]
	if !isVal || !isDelegation {
		return nil, 150
	}
	x, e := wanted(v, d, t)
	if e == 0 && b.counts()[pair{val, del}] >= b.param().Entries {
		return nil, 155
	}
	return x, e
}

// undelegate does what Undelegate must.
func (b *book) undelegate(val, del, t uint64) (uint64, api.Paid, api.Errno) {
	x, e := b.leaving(val, del, t)
	if e != 0 {
		return 0, api.Paid{}, e
	}
	from := house(b.vals[val])
	r, paid, _ := b.take(val, del, x)
	if r > 0 {
		b.must(from, loose, r)
		now := b.stand().Height
		b.unbondings[b.next()] = api.Unbonding{Del: del, Val: val, Height: now, Due: now + b.param().Unbond, Initial: r, Balance: r}
	}
	return r, paid, 0
}

// redelegate does what Redelegate must.
func (b *book) redelegate(src, dst, del, t uint64) (uint64, []api.Paid, api.Errno) {
	to, there := b.vals[dst]
	if src == dst {
		return 0, nil, 156
	}
	x, e := b.leaving(src, del, t)
	switch {
	case !there:
		return 0, nil, 150
	case e != 0:
		return 0, nil, e
	}
	from, r := house(b.vals[src]), redeem(b.vals[src], x)
	if r == 0 {
		return 0, nil, 153
	}
	z, e := issue(to, r)
	if e != 0 {
		return 0, nil, e
	}
	_, taken, _ := b.take(src, del, x)
	b.must(from, house(to), r)
	joined := b.join(dst, to, del, r, z)
	now := b.stand().Height
	b.moves[b.next()] = api.Move{Del: del, Src: src, Dst: dst, Height: now, Due: now + b.param().Unbond, Initial: r, Shares: decOf(z)}
	return r, []api.Paid{taken, joined}, 0
}

// mature does what Mature must.
func (b *book) mature() []api.Entry {
	type due struct{ when, id uint64 }
	var all []due
	kinds := map[due]int{}
	for id, u := range b.unbondings {
		kinds[due{u.Due, id}] = 12
	}
	for id, m := range b.moves {
		kinds[due{m.Due, id}] = 13
	}
	for d := range kinds {
		if d.when <= b.stand().Height {
			all = append(all, d)
		}
	}
	slices.SortFunc(all, func(x, y due) int { return cmp.Or(cmp.Compare(x.when, y.when), cmp.Compare(x.id, y.id)) })
	var told []api.Entry
	for _, d := range all {
		told = append(told, api.Entry{Id: d.id, Kind: kinds[d]})
		if u, there := b.unbondings[d.id]; there {
			b.must(loose, u.Del, u.Balance)
		}
		delete(b.unbondings, d.id)
		delete(b.moves, d.id)
	}
	return told
}

// elect does what Elect must.
func (b *book) elect() (went, came []uint64) {
	var ids []uint64
	for id, v := range b.vals {
		if !v.Jailed && v.Tokens > 0 {
			ids = append(ids, id)
		}
	}
	slices.SortFunc(ids, func(x, y uint64) int {
		return cmp.Or(cmp.Compare(b.vals[y].Tokens, b.vals[x].Tokens), cmp.Compare(x, y))
	})
	now := ids[:min(uint64(len(ids)), b.param().Max)]
	for _, id := range slices.Sorted(maps.Keys(b.vals)) {
		v, in := b.vals[id], slices.Contains(now, id)
		if v.Bonded == in {
			continue
		}
		if in {
			came = append(came, id)
		} else {
			went = append(went, id)
		}
	}
	for _, id := range slices.Concat(went, came) {
		v := b.vals[id]
		from := house(v)
		v.Bonded = !v.Bonded
		b.must(from, house(v), v.Tokens)
		b.vals[id] = v
	}
	return went, came
}
