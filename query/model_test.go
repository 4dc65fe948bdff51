package query_test

import (
	"encoding/binary"
	"math/big"
	"slices"
	"strings"

	"glean/api"
	"glean/kv"
)

// state: what lies in a store, key by key; what is asked of it is told by none of the project's calls.
type state map[string][]byte

// seen tells the state of a store.
func seen(s *kv.Store) state {
	x := state{}
	for _, p := range s.Dump() {
		x[string(p.Key)] = p.Value
	}
	return x
}

// fields: the bytes of a record, taken from the front on.
type fields struct{ left []byte }

func (f *fields) take(n int) []byte {
	b := f.left[:n]
	f.left = f.left[n:]
	return b
}

func (f *fields) number() uint64 { return binary.BigEndian.Uint64(f.take(8)) }
func (f *fields) truth() uint64  { return uint64(f.take(1)[0]) }
func (f *fields) raw() *big.Int  { return new(big.Int).SetBytes(f.take(int(f.take(1)[0]))) }

// record tells the fields of what lies under a key, and whether something does.
func (x state) record(key []byte) (*fields, bool) {
	b, there := x[string(key)]
	return &fields{b}, there
}

// under tells the keys that begin so, rising.
func (x state) under(begin []byte) []string {
	var all []string
	for k := range x {
		if strings.HasPrefix(k, string(begin)) {
			all = append(all, k)
		}
	}
	slices.Sort(all)
	return all
}

// last tells the number with which a key ends.
func last(key string) uint64 { return binary.BigEndian.Uint64([]byte(key[len(key)-8:])) }

// numbers tells so many numbers of the record under a key; noughts, if nothing lies there.
func (x state) numbers(key []byte, n int) []uint64 {
	all := make([]uint64, n)
	if f, there := x.record(key); there {
		for i := range all {
			all[i] = f.number()
		}
	}
	return all
}

// val: a validator's record, its Decs as Raws.
type val struct {
	rate, tokens, jailed, until, bonded, period uint64
	shares, current, outstanding, commission    *big.Int
}

func (x state) val(id uint64) (v val, there bool) {
	f, there := x.record(keyOf(id, '0'))
	if !there {
		return val{}, false
	}
	v.rate, v.tokens, v.shares, v.jailed, v.until = f.number(), f.number(), f.raw(), f.truth(), f.number()
	v.bonded, v.period, v.current, v.outstanding, v.commission = f.truth(), f.number(), f.raw(), f.raw(), f.raw()
	return v, true
}

// ratio tells a period's ratio; 0, if it has no history.
func (x state) ratio(id, period uint64) *big.Int {
	if f, there := x.record(keyOf(id, 'h', period)); there {
		return f.raw()
	}
	return new(big.Int)
}

// low tells a b / c, rounded down; 0, if c is.
func low(a, b, c *big.Int) *big.Int {
	if c.Sign() == 0 {
		return new(big.Int)
	}
	product := new(big.Int).Mul(a, b)
	return product.Quo(product, c)
}

// fall tells a - b; 0, if that is below 0.
func fall(a, b *big.Int) *big.Int {
	if a.Cmp(b) < 0 {
		return new(big.Int)
	}
	return new(big.Int).Sub(a, b)
}

// claim tells the Raw of what a delegation would be paid, and along how many cuts.
func (x state) claim(v val, id, del uint64) (*big.Int, int) {
	f, _ := x.record(keyOf(id, 'd', del))
	f.raw()
	from, stake := f.number(), f.raw()
	now := new(big.Int).Add(x.ratio(id, v.period-1), low(v.current, big.NewInt(1), whole(v.tokens)))
	reward, ahead, along := new(big.Int), x.ratio(id, from), 0
	earn := func(ratio *big.Int) {
		reward.Add(reward, low(stake, fall(ratio, ahead), scale))
		ahead = ratio
	}
	for _, k := range x.under(keyOf(id, 's')) {
		p := last(k)
		if p <= from || p > v.period {
			continue
		}
		cut := x.numbers([]byte(k), 2)
		earn(x.ratio(id, p))
		stake = low(stake, whole(cut[1]), whole(cut[0]))
		along++
	}
	earn(now)
	outstanding := v.outstanding
	if v.tokens == 0 {
		outstanding = fall(outstanding, v.current)
	}
	for _, most := range []*big.Int{fall(outstanding, v.commission), coins(x.numbers(spelt("a", 4), 1)[0])} {
		if reward.Cmp(most) > 0 {
			reward = most
		}
	}
	return reward, along
}

// decs tells Raws as Decs.
func decs(all ...*big.Int) []api.Dec {
	var l []api.Dec
	for _, x := range all {
		l = append(l, decOf(x))
	}
	return l
}

// meant tells the answer to a question.
func (x state) meant(a api.Ask) api.Answer {
	if a.Kind < askAccount || a.Kind > askMove {
		return api.Answer{Err: 230}
	}
	// By kind: how many of A and B it uses.
	if uses := [...]int{askAccount: 1, askVal: 1, askDelegation: 2, askClaim: 2, askFrom: 1, askHolds: 1, askUnbonding: 1, askMove: 1}; uses[a.Kind] < 2 && a.B != 0 || uses[a.Kind] < 1 && a.A != 0 {
		return api.Answer{Err: 230}
	}
	switch a.Kind {
	case askAccount:
		return api.Answer{N: x.numbers(spelt("a", a.A), 2)}
	case askChain:
		return api.Answer{N: x.numbers([]byte("c"), 2)}
	case askBonded:
		return api.Answer{N: x.lasts([]byte("b"))}
	case askHolds:
		return api.Answer{N: x.lasts(spelt("n", a.A))}
	case askFrom:
		return api.Answer{Entries: x.from(a.A)}
	case askPool:
		return api.Answer{D: decs(x.pool())}
	case askUnbonding, askMove:
		return x.entry(a)
	}
	return x.ofVal(a)
}

// lasts tells the numbers with which the keys end that begin so, rising.
func (x state) lasts(begin []byte) []uint64 {
	var all []uint64
	for _, k := range x.under(begin) {
		all = append(all, last(k))
	}
	return all
}

func (x state) from(id uint64) []api.Entry {
	var all []api.Entry
	for _, k := range x.under(spelt("e", id)) {
		all = append(all, api.Entry{Id: last(k), Kind: int(x.numbers([]byte(k), 1)[0])})
	}
	return all
}

func (x state) pool() *big.Int {
	if f, there := x.record([]byte("m")); there {
		return f.raw()
	}
	return new(big.Int)
}

// entry tells what is answered of what is under way.
func (x state) entry(a api.Ask) api.Answer {
	key := spelt(map[int]string{askUnbonding: "u", askMove: "r"}[a.Kind], a.A)
	f, there := x.record(key)
	if !there {
		return api.Answer{Err: 231}
	}
	answer := api.Answer{N: x.numbers(key, 6)}
	if a.Kind == askMove {
		f.take(6 * 8)
		answer.D = decs(f.raw())
	}
	return answer
}

// ofVal tells what is answered of a validator, and of its delegations.
func (x state) ofVal(a api.Ask) api.Answer {
	v, isVal := x.val(a.A)
	d, isDelegation := x.record(keyOf(a.A, 'd', a.B))
	switch {
	case !isVal || a.Kind != askVal && !isDelegation:
		return api.Answer{Err: 231}
	case a.Kind == askVal:
		return api.Answer{N: []uint64{v.rate, v.tokens, v.jailed, v.until, v.bonded, v.period}, D: decs(v.shares, v.current, v.outstanding, v.commission)}
	case a.Kind == askDelegation:
		shares := d.raw()
		return api.Answer{N: []uint64{low(shares, whole(v.tokens), v.shares).Uint64()}, D: decs(shares)}
	}
	reward, _ := x.claim(v, a.A, a.B)
	w, q := new(big.Int).QuoRem(reward, scale, new(big.Int))
	return api.Answer{N: []uint64{w.Uint64()}, D: decs(q)}
}

// delegations tells who has some of whom: validators and delegators in turn.
func (x state) delegations() [][2]uint64 {
	var all [][2]uint64
	for _, k := range x.under([]byte("v")) {
		if k[9] == 'd' {
			all = append(all, [2]uint64{last(k[:9]), last(k)})
		}
	}
	return all
}

// totals tells what there is in all.
func (x state) totals() api.Totals {
	coins, tokens, balances, outstanding, shares := new(big.Int), new(big.Int), new(big.Int), new(big.Int), new(big.Int)
	t := api.Totals{Dels: len(x.delegations()), Entries: len(x.under([]byte("u"))) + len(x.under([]byte("r")))}
	for _, k := range x.under([]byte("v")) {
		if k[9] == '0' {
			v, _ := x.val(last(k[:9]))
			t.Vals++
			tokens.Add(tokens, whole(v.tokens))
			outstanding.Add(outstanding, v.outstanding)
			shares.Add(shares, v.shares)
		}
	}
	for _, k := range x.under([]byte("a")) {
		coins.Add(coins, whole(x.numbers([]byte(k), 1)[0]))
	}
	for _, k := range x.under([]byte("u")) {
		balances.Add(balances, whole(x.numbers([]byte(k), 6)[5]))
	}
	t.Coins, t.Tokens, t.Balances = natOf(coins), natOf(tokens), natOf(balances)
	t.Pool, t.Outstanding, t.Shares = decOf(x.pool()), decOf(outstanding), decOf(shares)
	return t
}
