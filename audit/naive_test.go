package audit_test

import (
	"encoding/binary"
	"math/big"
	"strings"
	"testing"

	"glean/api"
	"glean/app"
	"glean/genesis"
	"glean/kv"
)

// state: what lies in a store, key by key.
type state map[string][]byte

// seen tells the state of a store.
func seen(s *kv.Store) state {
	x := state{}
	for _, p := range s.Dump() {
		x[string(p.Key)] = p.Value
	}
	return x
}

// fields: the bytes of a record, taken from the front on.
type fields struct{ left []byte }

func (f *fields) take(n int) []byte {
	b := f.left[:n]
	f.left = f.left[n:]
	return b
}

func (f *fields) number() uint64 { return binary.BigEndian.Uint64(f.take(8)) }
func (f *fields) raw() *big.Int  { return new(big.Int).SetBytes(f.take(int(f.take(1)[0]))) }

// last tells the number with which a key ends.
func last(key string) uint64 { return binary.BigEndian.Uint64([]byte(key[len(key)-8:])) }

// val: what is asked of a validator's record, its Decs as Raws.
type val struct {
	there                                    bool
	tokens, period                           uint64
	shares, current, outstanding, commission *big.Int
}

func (x state) val(id uint64) val {
	b, there := x[string(keyOf(id, '0'))]
	if !there {
		return val{}
	}
	f := &fields{b}
	f.number()
	v := val{there: true, tokens: f.number(), shares: f.raw()}
	f.take(1 + 8 + 1)
	v.period, v.current, v.outstanding, v.commission = f.number(), f.raw(), f.raw(), f.raw()
	return v
}

// delegation tells the Raw of a delegation's shares, and its period.
func (x state) delegation(p pair) (shares *big.Int, period uint64) {
	f := &fields{x[string(keyOf(p.val, 'd', p.del))]}
	return f.raw(), f.number()
}

// delegations tells whose there are.
func (x state) delegations() []pair {
	var all []pair
	for k := range x {
		if k[0] == 'v' && k[9] == 'd' {
			all = append(all, pair{last(k[:9]), last(k)})
		}
	}
	return all
}

// vals tells which validators there are.
func (x state) vals() []uint64 {
	var all []uint64
	for k := range x {
		if k[0] == 'v' && k[9] == '0' {
			all = append(all, last(k[:9]))
		}
	}
	return all
}

// pair: whose stake it is, and of which validator.
type pair struct{ val, del uint64 }

// held: what a delegation has, exactly, and is owed; how many periods were closed, and cuts came, since it was touched last.
type held struct {
	worth, owed   *big.Rat
	periods, cuts int
}

// beside: an engine of the test's own, gone through step by step, and what everybody is owed, reckoned by none of the project's calls.
type beside struct {
	engine *app.Engine
	stakes map[pair]*held
	// What was met on the way.
	met map[string]int
}

// newBeside begins so as an audit must.
func newBeside(t *testing.T, g api.Genesis) *beside {
	t.Helper()
	s, e := genesis.Make(laid(g))
	wantErr(t, "P21.3: Make", e, api.OK)
	engine, e := app.New(s)
	wantErr(t, "P20.1: New", e, api.OK)
	b := &beside{engine, map[pair]*held{}, map[string]int{}}
	now := seen(s)
	for _, p := range now.delegations() {
		shares, _ := now.delegation(p)
		v := now.val(p.val)
		b.hold(p, shares, v.shares, v.tokens)
	}
	return b
}

// by tells x n / m, and 0 by 0.
func by(x *big.Rat, n, m *big.Int) *big.Rat {
	if m.Sign() == 0 {
		return new(big.Rat)
	}
	return new(big.Rat).Mul(x, new(big.Rat).SetFrac(n, m))
}

// hold has a stake be what so many shares of all are of the tokens.
func (b *beside) hold(p pair, shares, all *big.Int, tokens uint64) {
	if b.stakes[p] == nil {
		b.stakes[p] = &held{owed: new(big.Rat)}
	}
	b.stakes[p].worth = by(new(big.Rat).SetInt(whole(tokens)), shares, all)
}

// behind tells the stakes of a validator.
func (b *beside) behind(id uint64) []*held {
	var all []*held
	for p, h := range b.stakes {
		if p.val == id {
			all = append(all, h)
		}
	}
	return all
}

// owes tells what is owed to the stakes of a validator together.
func (b *beside) owes(id uint64) *big.Rat {
	z := new(big.Rat)
	for _, h := range b.behind(id) {
		z.Add(z, h.owed)
	}
	return z
}

// begin begins a block: what Current grows by is a validator's reward.
func (b *beside) begin() api.Report {
	before := seen(b.engine.Store())
	report := b.engine.Begin()
	after := seen(b.engine.Store())
	for _, id := range before.vals() {
		v := before.val(id)
		grew := places(new(big.Int).Sub(after.val(id).current, v.current))
		for _, h := range b.behind(id) {
			h.owed.Add(h.owed, by(new(big.Rat).Mul(grew, h.worth), big.NewInt(1), whole(v.tokens)))
		}
	}
	return report
}

// deliver does an item, and cuts the stakes as the validator of a fault was cut.
func (b *beside) deliver(item []byte) api.Reply {
	before := seen(b.engine.Store())
	reply := b.engine.Deliver(item)
	if !strings.HasPrefix(string(item), "F") || reply.Err != api.OK {
		return reply
	}
	id := binary.BigEndian.Uint64(item[2:])
	was, is := before.val(id).tokens, seen(b.engine.Store()).val(id).tokens
	if is == was {
		b.met["a fault without a cut"]++
		return reply
	}
	for _, h := range b.behind(id) {
		h.worth = by(h.worth, whole(is), whole(was))
		h.periods++
		h.cuts++
	}
	return reply
}

// pay tells what must be audited of a payment, and holds anew what it leaves.
func (b *beside) pay(p api.Paid) api.Audited {
	for _, h := range b.behind(p.Val) {
		h.periods++
	}
	who := pair{p.Val, p.Del}
	h := b.stakes[who]
	if h == nil {
		h = &held{owed: new(big.Rat)}
	}
	audited := api.Audited{Val: p.Val, Del: p.Del, W: p.W, Q: p.Q, E: ratOf(h.owed), P: h.periods, K: h.cuts, Fits: fits(h, p)}
	h.owed, h.periods, h.cuts = new(big.Rat), 0, 0
	if delete(b.stakes, who); len(p.Left.Raw) > 0 {
		b.hold(who, value(p.Left.Raw), value(p.Shares.Raw), p.Tokens)
	}
	return audited
}

// fits tells whether a payment is at most what is owed, and within the bound below it.
func fits(h *held, p api.Paid) bool {
	short := new(big.Rat).Sub(h.owed, new(big.Rat).Add(new(big.Rat).SetInt(whole(p.W)), decValue(p.Q)))
	bound := fraction(int64(h.periods*(h.cuts+3)), 1_000_000_000_000_000_000)
	return short.Sign() >= 0 && short.Cmp(bound) <= 0
}

// block tells what an audit must answer of a block.
func (b *beside) block(items [][]byte) (api.Report, []api.Audited) {
	report := b.begin()
	var all []api.Audited
	for _, item := range items {
		reply := b.deliver(item)
		report.Replies = append(report.Replies, reply)
		for _, p := range reply.Paid {
			all = append(all, b.pay(p))
		}
		b.count(item, reply, all[len(all)-len(reply.Paid):])
	}
	end := b.engine.End()
	report.Matured, report.Went, report.Came = end.Matured, end.Went, end.Came
	return report, all
}

// count counts what was met, so that a drawn run can be asked whether it has tried enough.
func (b *beside) count(item []byte, reply api.Reply, all []api.Audited) {
	if len(all) > 0 && item[0] == 0x46 {
		b.met["a payment by a fault"]++
	}
	if len(all) == 2 {
		b.met["two payments by an item"]++
	}
	for i, a := range all {
		p := reply.Paid[i]
		switch {
		case a.K > 1:
			b.met["several cuts"]++
		case a.K == 1:
			b.met["a cut"]++
		}
		if len(a.E.Num) > 0 && (a.W > 0 || len(a.Q.Raw) > 0) {
			b.met["something owed and paid"]++
		}
		if len(p.Left.Raw) == 0 {
			b.met["a delegation that goes"]++
		}
		if len(p.Shares.Raw) == 0 {
			b.met["a validator that ends"]++
		}
		if p.Tokens == 0 && len(p.Shares.Raw) > 0 {
			b.met["shares without tokens"]++
		}
	}
}
