package dist_test

import (
	"bytes"
	"maps"
	"math/big"
	"math/rand"
	"slices"
	"testing"

	"glean/api"
	"glean/dist"
	"glean/kv"
)

type (
	// place: of a validator, a period.
	place struct{ id, period uint64 }
	// pair: of a validator, a delegator.
	pair struct{ val, del uint64 }
	// past: a history; the ratio is never changed in place.
	past struct {
		ratio *big.Int
		refs  uint64
	}
)

// book: what the chapters say of a store, by none of the project's calls. Records are never changed in place.
type book struct {
	pool   *big.Int
	params []api.Params // none, or one
	purses map[uint64]api.Account
	vals   map[uint64]api.Validator
	dels   map[pair]api.Delegation
	pasts  map[place]past
	cuts   map[place]api.Cut
	bonded map[uint64]bool
}

func newBook() *book {
	return &book{
		new(big.Int), nil, map[uint64]api.Account{}, map[uint64]api.Validator{}, map[pair]api.Delegation{},
		map[place]past{}, map[place]api.Cut{}, map[uint64]bool{},
	}
}

// copied tells a book like it.
func (b *book) copied() *book {
	return &book{
		b.pool, slices.Clone(b.params), maps.Clone(b.purses), maps.Clone(b.vals), maps.Clone(b.dels),
		maps.Clone(b.pasts), maps.Clone(b.cuts), maps.Clone(b.bonded),
	}
}

// laid tells all that lies in a store of that book, rising.
func (b *book) laid() []api.Pair {
	var all []api.Pair
	add := func(key, value []byte) { all = append(all, api.Pair{Key: key, Value: value}) }
	if b.pool.Sign() > 0 {
		add([]byte{0x6D}, speltDec(b.pool))
	}
	for _, p := range b.params {
		add([]byte{0x70}, spelt(nil, p.Max, p.Unbond, p.Entries, p.Tax, p.Double, p.Down, p.Jail, p.Age, p.Fee, p.Keeper))
	}
	for id, a := range b.purses {
		if a != (api.Account{}) {
			add(spelt([]byte{0x61}, id), spelt(nil, a.Coins, a.Seq))
		}
	}
	for id, v := range b.vals {
		add(keyOf(id, 0x30), speltVal(v))
	}
	for p, d := range b.dels {
		add(keyOf(p.val, 0x64, p.del), speltDelegation(d))
	}
	for p, h := range b.pasts {
		add(keyOf(p.id, 0x68, p.period), spelt(speltDec(h.ratio), h.refs))
	}
	for p, c := range b.cuts {
		add(keyOf(p.id, 0x73, p.period), spelt(nil, c.Before, c.After))
	}
	for id := range b.bonded {
		add(spelt([]byte{0x62}, id), nil)
	}
	slices.SortFunc(all, func(x, y api.Pair) int { return bytes.Compare(x.Key, y.Key) })
	return all
}

// store tells a store in which that lies.
func (b *book) store() *kv.Store {
	s := kv.New()
	for _, p := range b.laid() {
		s.Set(p.Key, p.Value)
	}
	return s
}

// move does what bank.Move must.
func (b *book) move(from, to, n uint64) api.Errno {
	giver, taker := b.purses[from], b.purses[to]
	switch {
	case from == 0 || to == 0 || from > 4 && from < 16 || to > 4 && to < 16:
		return 92
	case giver.Coins < n:
		return 90
	case from == to:
		return 0
	case sum(whole(taker.Coins), whole(n)).Cmp(whole(supply)) > 0:
		return 91
	}
	giver.Coins -= n
	taker.Coins += n
	b.purses[from], b.purses[to] = giver, taker
	return 0
}

// endow gives an account so many coins in the store and the book, whatever it had.
func (b *book) endow(s *kv.Store, id, n uint64) {
	n = min(n, supply)
	b.purses[id] = api.Account{Coins: n, Seq: 1}
	s.Set(spelt([]byte{0x61}, id), spelt(nil, n, 1))
}

// pour does what Pour must.
func (b *book) pour(x *big.Int) { b.pool = sum(b.pool, x) }

// give tells what Give must, and what Current grows by.
func (b *book) give(v api.Validator, r *big.Int) (api.Validator, *big.Int) {
	v = normalVal(v)
	c := low(r, whole(min(v.Rate, 10000)), big.NewInt(10000))
	grown := fall(r, c)
	v.Commission, v.Current, v.Outstanding = decOf(sum(value(v.Commission), c)), decOf(sum(value(v.Current), grown)), decOf(sum(value(v.Outstanding), r))
	return v, grown
}

// allocate does what Allocate must.
func (b *book) allocate() []api.Paid {
	fees := b.purses[collector].Coins
	if fees == 0 || b.move(collector, shared, fees) != 0 {
		return nil
	}
	tax := new(big.Int)
	for _, p := range b.params {
		tax = low(coins(fees), whole(min(p.Tax, 10000)), big.NewInt(10000))
	}
	rest, all := fall(coins(fees), tax), new(big.Int)
	b.pour(tax)
	var ids []uint64
	for _, id := range slices.Sorted(maps.Keys(b.bonded)) {
		if v, there := b.vals[id]; there {
			ids = append(ids, id)
			all.Add(all, whole(v.Tokens))
		}
	}
	left := rest
	var gave []api.Paid
	for _, id := range ids {
		if all.Sign() > 0 {
			got := low(rest, whole(b.vals[id].Tokens), all)
			v, grown := b.give(b.vals[id], got)
			b.vals[id], left = v, fall(left, got)
			gave = append(gave, api.Paid{Val: id, Q: decOf(grown)})
		}
	}
	b.pour(left)
	return gave
}

// ratio tells a period's ratio.
func (b *book) ratio(id, period uint64) *big.Int {
	if p, there := b.pasts[place{id, period}]; there {
		return p.ratio
	}
	return new(big.Int)
}

// refer makes a period's references more by that, modulo 2^64; without any it goes.
func (b *book) refer(id, period, more uint64) {
	p := past{b.ratio(id, period), b.pasts[place{id, period}].refs + more}
	b.pasts[place{id, period}] = p
	if p.refs == 0 {
		delete(b.pasts, place{id, period})
	}
}

// letGo lets a period go, if it is there.
func (b *book) letGo(id, period uint64) {
	if _, there := b.pasts[place{id, period}]; there {
		b.refer(id, period, top)
	}
}

// close does what f1.Close must, and pours what that tells.
func (b *book) close(id uint64, v api.Validator) api.Validator {
	v = normalVal(v)
	ratio := sum(b.ratio(id, v.Period-1), low(value(v.Current), big.NewInt(1), whole(v.Tokens)))
	b.pasts[place{id, v.Period}] = past{ratio, 1}
	b.letGo(id, v.Period-1)
	if v.Tokens == 0 {
		b.pour(value(v.Current))
		v.Outstanding = decOf(fall(value(v.Outstanding), value(v.Current)))
	}
	v.Period, v.Current = v.Period+1, api.Dec{}
	return v
}

// claim tells what f1.Claim must.
func (b *book) claim(id uint64, v api.Validator, d api.Delegation) *big.Int {
	reward, stake, from := new(big.Int), value(d.Stake), d.Period
	var along []uint64
	for p := range b.cuts {
		if p.id == id && from < p.period && p.period <= v.Period-1 {
			along = append(along, p.period)
		}
	}
	slices.Sort(along)
	for _, p := range along {
		reward.Add(reward, low(stake, fall(b.ratio(id, p), b.ratio(id, from)), scale))
		c := b.cuts[place{id, p}]
		stake, from = low(stake, whole(c.After), whole(c.Before)), p
	}
	return reward.Add(reward, low(stake, fall(b.ratio(id, v.Period-1), b.ratio(id, from)), scale))
}

// settle does what Settle must, of a delegation that is there.
func (b *book) settle(id uint64, v api.Validator, del uint64) (api.Validator, api.Paid) {
	d := b.dels[pair{id, del}]
	v = b.close(id, v)
	c := b.claim(id, v, d)
	b.letGo(id, d.Period)
	for _, most := range []*big.Int{fall(value(v.Outstanding), value(v.Commission)), coins(b.purses[shared].Coins)} {
		if c.Cmp(most) > 0 {
			c = most
		}
	}
	w, q := new(big.Int).QuoRem(c, scale, new(big.Int))
	if b.move(shared, del, w.Uint64()) != 0 {
		return v, api.Paid{Val: id, Del: del}
	}
	v.Outstanding = decOf(fall(value(v.Outstanding), c))
	b.pour(q)
	return v, api.Paid{Val: id, Del: del, W: w.Uint64(), Q: decOf(q)}
}

// withdraw does what Withdraw must.
func (b *book) withdraw(val, del uint64) (api.Paid, api.Errno) {
	v, isVal := b.vals[val]
	d, isDelegation := b.dels[pair{val, del}]
	if !isVal || !isDelegation {
		return api.Paid{}, 140
	}
	v, paid := b.settle(val, v, del)
	b.refer(val, v.Period-1, 1)
	worth := low(value(d.Shares), coins(v.Tokens), value(v.Shares))
	b.vals[val], b.dels[pair{val, del}] = v, api.Delegation{Shares: d.Shares, Period: v.Period - 1, Stake: decOf(worth)}
	paid.Left, paid.Tokens, paid.Shares = d.Shares, v.Tokens, v.Shares
	return paid, 0
}

// commission does what Commission must.
func (b *book) commission(val uint64) (uint64, api.Errno) {
	v, there := b.vals[val]
	n := new(big.Int).Quo(value(v.Commission), scale)
	switch {
	case !there:
		return 0, 140
	case n.Sign() == 0:
		return 0, 141
	case n.Cmp(whole(top)) > 0:
		return 0, 90
	}
	if e := b.move(shared, val, n.Uint64()); e != 0 {
		return 0, e
	}
	fell := coins(n.Uint64())
	v.Commission, v.Outstanding = decOf(fall(value(v.Commission), fell)), decOf(fall(value(v.Outstanding), fell))
	b.vals[val] = v
	return n.Uint64(), 0
}

// fund does what Fund must.
func (b *book) fund(id, n uint64) api.Errno {
	e := b.move(id, shared, n)
	if e == 0 {
		b.pour(coins(n))
	}
	return e
}

// spend does what Spend must.
func (b *book) spend(to, n uint64) api.Errno {
	if b.pool.Cmp(coins(n)) < 0 {
		return 142
	}
	e := b.move(shared, to, n)
	if e == 0 {
		b.pool = fall(b.pool, coins(n))
	}
	return e
}

// drawnBook draws a book: whatever records may lie there, of few validators and delegators.
func drawnBook(r *rand.Rand) *book {
	b := newBook()
	if r.Intn(2) == 0 {
		b.pour(value(drawnDec(r)))
	}
	if r.Intn(3) > 0 {
		b.params = []api.Params{{Max: 5, Tax: drawn(r), Keeper: 7}}
	}
	for _, id := range []uint64{collector, 2, 3, shared, 16, 17, 18, 20, top} {
		b.purses[id] = api.Account{Coins: drawnCoins(r), Seq: uint64(r.Intn(2))}
	}
	for range 6 {
		id := drawnId(r)
		b.vals[id] = normalVal(drawnVal(r))
		b.bonded[drawnId(r)] = true
		b.dels[pair{id, drawnDel(r)}] = normalDelegation(drawnDelegation(r))
		b.dels[pair{drawnId(r), drawnDel(r)}] = normalDelegation(drawnDelegation(r))
		for range 4 {
			b.pasts[place{id, drawnPeriod(r)}] = past{value(drawnDec(r)), 1 + uint64(r.Intn(3))}
		}
		b.cuts[place{id, drawnPeriod(r)}] = api.Cut{Before: drawn(r), After: drawn(r)}
	}
	return b
}

// doSettle settles a drawn validator's delegation, if there is one, with the store and the book.
func doSettle(t *testing.T, r *rand.Rand, s *kv.Store, b *book) {
	t.Helper()
	id, del, v := drawnId(r), drawnDel(r), drawnVal(r)
	if laid, there := b.vals[id]; there && r.Intn(2) == 0 {
		v = laid
	}
	if _, there := b.dels[pair{id, del}]; !there {
		return
	}
	got, paid := dist.Settle(s, id, v, del)
	want, wanted := b.settle(id, v, del)
	wantVal(t, "P14.4: Settle", got, want)
	wantPaid(t, "P14.4: Settle", paid, wanted)
}

// doAllocate shares out.
func doAllocate(t *testing.T, s *kv.Store, b *book) {
	t.Helper()
	if got, want := dist.Allocate(s), b.allocate(); !slices.EqualFunc(got, want, samePaid) {
		t.Fatalf("P14.3: Allocate: %v, not %v", got, want)
	}
}

// doWithdraw withdraws.
func doWithdraw(t *testing.T, s *kv.Store, b *book, val, del uint64) {
	t.Helper()
	got, e := dist.Withdraw(s, val, del)
	want, f := b.withdraw(val, del)
	wantErr(t, "P14.5: Withdraw", e, f)
	wantPaid(t, "P14.5: Withdraw", got, want)
}

// doCommission pays a commission.
func doCommission(t *testing.T, s *kv.Store, b *book, val uint64) {
	t.Helper()
	got, e := dist.Commission(s, val)
	want, f := b.commission(val)
	wantErr(t, "P14.5: Commission", e, f)
	if got != want {
		t.Fatalf("P14.5: Commission: %d, not %d", got, want)
	}
}

// doOne does a drawn call with the store and the book, whatever was done ahead of it.
func doOne(t *testing.T, r *rand.Rand, s *kv.Store, b *book) {
	t.Helper()
	n := drawnCoins(r)
	switch r.Intn(11) {
	case 0:
		d := drawnDec(r)
		dist.Pour(s, d)
		b.pour(value(d))
	case 1:
		id, v := drawnId(r), drawnVal(r)
		dist.SetVal(s, id, v)
		b.vals[id] = normalVal(v)
	case 2:
		p, d := pair{drawnId(r), drawnDel(r)}, drawnDelegation(r)
		dist.SetDelegation(s, p.val, p.del, d)
		b.dels[p] = normalDelegation(d)
	case 3:
		doAllocate(t, s, b)
	case 4:
		doSettle(t, r, s, b)
	case 5:
		doWithdraw(t, s, b, drawnId(r), drawnDel(r))
	case 6:
		doCommission(t, s, b, drawnId(r))
	case 7:
		id := drawnDel(r)
		wantErr(t, "P14.6: Fund", dist.Fund(s, id, n), b.fund(id, n))
	case 8:
		to := drawnDel(r)
		wantErr(t, "P14.6: Spend", dist.Spend(s, to, n), b.spend(to, n))
	case 9:
		b.endow(s, collector, n+1)
	default:
		b.endow(s, []uint64{shared, 16, 20, top}[r.Intn(4)], n+1)
	}
}
