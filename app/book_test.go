package app_test

import (
	"bytes"
	"maps"
	"math/big"
	"slices"

	"glean/api"
	"glean/kv"
)

type (
	// place: of a validator, a period.
	place struct{ id, period uint64 }
	// pair: of a validator, a delegator.
	pair struct{ val, del uint64 }
	// past: a history; the ratio is never changed in place.
	past struct {
		ratio *big.Int
		refs  uint64
	}
)

// book: what the chapters say of an honest store, by none of the project's calls. What follows from the records isn't kept but told by laid: the index, who is bonded, who holds what, when and where entries stand. Records are never changed in place.
type book struct {
	pool       *big.Int
	params     []api.Params // none, or one
	chain      []api.Chain  // none, or one
	purses     map[uint64]api.Account
	vals       map[uint64]api.Validator
	dels       map[pair]api.Delegation
	pasts      map[place]past
	cuts       map[place]api.Cut
	tombs      map[uint64]uint64
	unbondings map[uint64]api.Unbonding
	moves      map[uint64]api.Move
}

func newBook() *book {
	return &book{
		new(big.Int), nil, nil, map[uint64]api.Account{}, map[uint64]api.Validator{}, map[pair]api.Delegation{},
		map[place]past{}, map[place]api.Cut{}, map[uint64]uint64{}, map[uint64]api.Unbonding{}, map[uint64]api.Move{},
	}
}

// copied tells a book like it.
func (b *book) copied() *book {
	return &book{
		b.pool, slices.Clone(b.params), slices.Clone(b.chain), maps.Clone(b.purses), maps.Clone(b.vals), maps.Clone(b.dels),
		maps.Clone(b.pasts), maps.Clone(b.cuts), maps.Clone(b.tombs), maps.Clone(b.unbondings), maps.Clone(b.moves),
	}
}

// laid tells all that lies in a store of that book, rising.
func (b *book) laid() []api.Pair {
	var all []api.Pair
	add := func(key, value []byte) { all = append(all, api.Pair{Key: key, Value: value}) }
	if b.pool.Sign() > 0 {
		add([]byte{0x6D}, speltDec(b.pool))
	}
	for _, p := range b.params {
		add([]byte{0x70}, spelt(nil, p.Max, p.Unbond, p.Entries, p.Tax, p.Double, p.Down, p.Jail, p.Age, p.Fee, p.Keeper))
	}
	for _, c := range b.chain {
		add([]byte{0x63}, spelt(nil, c.Height, c.Next))
	}
	for id, a := range b.purses {
		if a != (api.Account{}) {
			add(spelt([]byte{0x61}, id), spelt(nil, a.Coins, a.Seq))
		}
	}
	for id, height := range b.tombs {
		add(spelt([]byte{0x74}, id), spelt(nil, height))
	}
	b.layVals(add)
	b.layEntries(add)
	slices.SortFunc(all, func(x, y api.Pair) int { return bytes.Compare(x.Key, y.Key) })
	return all
}

// layVals tells all that lies of validators and delegations.
func (b *book) layVals(add func(key, value []byte)) {
	for id, v := range b.vals {
		add(keyOf(id, 0x30), speltVal(v))
		if !v.Jailed && v.Tokens > 0 {
			add(spelt([]byte{0x69}, top-v.Tokens, id), nil)
		}
		if v.Bonded {
			add(spelt([]byte{0x62}, id), nil)
		}
	}
	for p, d := range b.dels {
		add(keyOf(p.val, 0x64, p.del), speltDelegation(d))
		add(spelt([]byte{0x6E}, p.del, p.val), nil)
	}
	for p, h := range b.pasts {
		add(keyOf(p.id, 0x68, p.period), spelt(speltDec(h.ratio), h.refs))
	}
	for p, c := range b.cuts {
		add(keyOf(p.id, 0x73, p.period), spelt(nil, c.Before, c.After))
	}
}

// layEntries tells all that lies of what is under way.
func (b *book) layEntries(add func(key, value []byte)) {
	for id, u := range b.unbondings {
		add(spelt([]byte{0x75}, id), spelt(nil, u.Del, u.Val, u.Height, u.Due, u.Initial, u.Balance))
		add(spelt([]byte{0x71}, u.Due, id), spelt(nil, 12))
		add(spelt([]byte{0x65}, u.Val, id), spelt(nil, 12))
	}
	for id, m := range b.moves {
		add(spelt([]byte{0x72}, id), append(spelt(nil, m.Del, m.Src, m.Dst, m.Height, m.Due, m.Initial), speltDec(value(m.Shares))...))
		add(spelt([]byte{0x71}, m.Due, id), spelt(nil, 13))
		add(spelt([]byte{0x65}, m.Src, id), spelt(nil, 13))
	}
	for p, n := range b.counts() {
		add(spelt([]byte{0x6B}, p.del, p.val), spelt(nil, n))
	}
}

// counts tells how many entries each pair has.
func (b *book) counts() map[pair]uint64 {
	all := map[pair]uint64{}
	for _, u := range b.unbondings {
		all[pair{u.Val, u.Del}]++
	}
	for _, m := range b.moves {
		all[pair{m.Src, m.Del}]++
	}
	return all
}

// lay has lie in a store what the book says, and nothing else.
func (b *book) lay(s *kv.Store) {
	for _, p := range s.Dump() {
		s.Delete(p.Key)
	}
	for _, p := range b.laid() {
		s.Set(p.Key, p.Value)
	}
}

// store tells a store in which that lies.
func (b *book) store() *kv.Store {
	s := kv.New()
	b.lay(s)
	return s
}

// param tells the params; zero, if there are none.
func (b *book) param() (p api.Params) {
	for _, p = range b.params {
	}
	return p
}

// stand tells where the chain stands; zero, if it hasn't begun.
func (b *book) stand() (c api.Chain) {
	for _, c = range b.chain {
	}
	return c
}

// next tells the number of a new entry.
func (b *book) next() uint64 {
	c := b.stand()
	b.chain = []api.Chain{{Height: c.Height, Next: c.Next + 1}}
	return c.Next
}

// mint does what bank.Mint must, of few coins.
func (b *book) mint(id, n uint64) {
	a := b.purses[id]
	a.Coins += n
	b.purses[id] = a
}

// move does what bank.Move must.
func (b *book) move(from, to, n uint64) api.Errno {
	giver, taker := b.purses[from], b.purses[to]
	switch {
	case from == 0 || to == 0 || from > 4 && from < 16 || to > 4 && to < 16:
		return 92
	case giver.Coins < n:
		return 90
	case from == to:
		return 0
	case sum(whole(taker.Coins), whole(n)).Cmp(whole(supply)) > 0:
		return 91
	}
	giver.Coins -= n
	taker.Coins += n
	b.purses[from], b.purses[to] = giver, taker
	return 0
}

// must moves coins that an honest store has.
func (b *book) must(from, to, n uint64) {
	if b.move(from, to, n) != 0 {
		panic("no honest store")
	}
}

// pour does what dist.Pour must.
func (b *book) pour(x *big.Int) { b.pool = sum(b.pool, x) }

// ratio tells a period's ratio.
func (b *book) ratio(id, period uint64) *big.Int {
	if p, there := b.pasts[place{id, period}]; there {
		return p.ratio
	}
	return new(big.Int)
}

// refer makes a period's references more by that, modulo 2^64; without any it goes.
func (b *book) refer(id, period, more uint64) {
	p := past{b.ratio(id, period), b.pasts[place{id, period}].refs + more}
	b.pasts[place{id, period}] = p
	if p.refs == 0 {
		delete(b.pasts, place{id, period})
	}
}

// letGo lets a period go, if it is there.
func (b *book) letGo(id, period uint64) {
	if _, there := b.pasts[place{id, period}]; there {
		b.refer(id, period, top)
	}
}

// close does what f1.Close must, and pours what that tells.
func (b *book) close(id uint64, v api.Validator) api.Validator {
	ratio := sum(b.ratio(id, v.Period-1), low(value(v.Current), big.NewInt(1), whole(v.Tokens)))
	b.pasts[place{id, v.Period}] = past{ratio, 1}
	b.letGo(id, v.Period-1)
	if v.Tokens == 0 {
		b.pour(value(v.Current))
		v.Outstanding = decOf(fall(value(v.Outstanding), value(v.Current)))
	}
	v.Period, v.Current = v.Period+1, api.Dec{}
	return v
}

// claim tells what f1.Claim must.
func (b *book) claim(id uint64, v api.Validator, d api.Delegation) *big.Int {
	reward, stake, from := new(big.Int), value(d.Stake), d.Period
	var along []uint64
	for p := range b.cuts {
		if p.id == id && from < p.period && p.period <= v.Period-1 {
			along = append(along, p.period)
		}
	}
	slices.Sort(along)
	for _, p := range along {
		reward.Add(reward, low(stake, fall(b.ratio(id, p), b.ratio(id, from)), scale))
		c := b.cuts[place{id, p}]
		stake, from = low(stake, whole(c.After), whole(c.Before)), p
	}
	return reward.Add(reward, low(stake, fall(b.ratio(id, v.Period-1), b.ratio(id, from)), scale))
}

// settle does what dist.Settle must, of a delegation that is there.
func (b *book) settle(id uint64, v api.Validator, del uint64) (api.Validator, api.Paid) {
	d := b.dels[pair{id, del}]
	v = b.close(id, v)
	c := b.claim(id, v, d)
	b.letGo(id, d.Period)
	for _, most := range []*big.Int{fall(value(v.Outstanding), value(v.Commission)), coins(b.purses[shared].Coins)} {
		if c.Cmp(most) > 0 {
			c = most
		}
	}
	w, q := new(big.Int).QuoRem(c, scale, new(big.Int))
	b.must(shared, del, w.Uint64())
	v.Outstanding = decOf(fall(value(v.Outstanding), c))
	b.pour(q)
	return v, api.Paid{Val: id, Del: del, W: w.Uint64(), Q: decOf(q)}
}

// hold does what f1.Hold must, and lays both records; it tells what was paid with them as they are then.
func (b *book) hold(id uint64, v api.Validator, del uint64, shares *big.Int, paid api.Paid) api.Paid {
	b.refer(id, v.Period-1, 1)
	worth := low(shares, coins(v.Tokens), value(v.Shares))
	b.vals[id], b.dels[pair{id, del}] = v, api.Delegation{Shares: decOf(shares), Period: v.Period - 1, Stake: decOf(worth)}
	paid.Left, paid.Tokens, paid.Shares = decOf(shares), v.Tokens, v.Shares
	return paid
}
