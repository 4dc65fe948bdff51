package query_test

import (
	"math/rand"
	"testing"

	"glean/api"
	"glean/app"
	"glean/bank"
	"glean/dist"
	"glean/genesis"
	"glean/kv"
	"glean/msg"
	"glean/power"
	"glean/slash"
	"glean/stake"
)

// bare tells a sound state with as few entries as may be: params, and a chain that hasn't begun.
func bare() *kv.Store {
	s := kv.New()
	stake.SetParams(s, api.Params{Max: 2, Unbond: 9, Entries: 3, Tax: 100, Double: 500, Down: 1000, Jail: 4, Age: 50, Fee: 1, Keeper: 16})
	stake.SetChain(s, api.Chain{Next: 1})
	return s
}

// fees has an account pay fees, which are shared out.
func fees(s *kv.Store, from, n uint64) {
	bank.Move(s, from, api.Collector, n)
	dist.Allocate(s)
}

// grown tells a state at height 5 in which something of each kind lies. Of its validators 16 and 18 are bonded; 17 was cut in period 4 and is jailed; 19 has a tomb. Unbondings are of 20 from 16, a move of 21 from 17 to 16.
func grown() *kv.Store {
	s := bare()
	stake.SetChain(s, api.Chain{Height: 5, Next: 1})
	for id := uint64(16); id < 24; id++ {
		bank.Mint(s, id, 1000)
	}
	for op, n := range []uint64{300, 200, 150, 100} {
		stake.Create(s, 16+uint64(op), 500*uint64(op), n)
	}
	stake.Delegate(s, 16, 20, 100)
	stake.Delegate(s, 17, 21, 50)
	stake.Elect(s)
	fees(s, 22, 77)
	stake.Undelegate(s, 16, 20, 30)
	stake.Redelegate(s, 17, 16, 21, 20)
	stake.Undelegate(s, 16, 20, 7)
	slash.Fault(s, api.FaultDown, 17, 5)
	slash.Fault(s, api.FaultDouble, 19, 5)
	stake.Elect(s)
	fees(s, 22, 10)
	dist.Withdraw(s, 16, 16)
	return s
}

// users: who takes part in drawn runs.
func users() []uint64 { return []uint64{16, 17, 18, 19, 255, 256, top} }

func drawnUser(r *rand.Rand) uint64 { return users()[r.Intn(len(users()))] }

// drawnOf draws one of these numbers.
func drawnOf(r *rand.Rand, all ...uint64) uint64 { return all[r.Intn(len(all))] }

// drawnEngine begins a run, with few coins or very many.
func drawnEngine(t *testing.T, r *rand.Rand) *app.Engine {
	t.Helper()
	parts := func() uint64 { return drawnOf(r, 0, 1, 777, 2500, 5000, 9999, 10000) }
	g := api.Genesis{Params: api.Params{
		Max: drawnOf(r, 1, 2, 3, 64), Unbond: drawnOf(r, 1, 3, 9, 100000), Entries: drawnOf(r, 1, 3, 16), Tax: parts(), Double: parts(), Down: parts(),
		Jail: drawnOf(r, 0, 1, 5), Age: drawnOf(r, 1, 9, 100000), Fee: drawnOf(r, 0, 1, 100), Keeper: drawnUser(r),
	}}
	for _, id := range users() {
		coins := 1 + uint64(r.Int63n(1<<(8+r.Intn(49))))
		g.Accounts = append(g.Accounts, api.Purse{Id: id, Coins: coins})
		if r.Intn(2) == 0 {
			g.Vals = append(g.Vals, api.Founder{Op: id, Rate: parts(), Tokens: 1 + coins/2})
		}
	}
	s, e := genesis.Make(genesis.Encode(g))
	if e != api.OK {
		t.Fatalf("P21.3: Make of %+v: %v", g, e)
	}
	return engine(t, s)
}

// engine tells an engine over a store.
func engine(t *testing.T, s *kv.Store) *app.Engine {
	t.Helper()
	e, err := app.New(s)
	if err != api.OK {
		t.Fatalf("P20.1: New: %v", err)
	}
	return e
}

// drawnItems draws items of a block for a state that lies there when it begins; most of them can be done.
func drawnItems(r *rand.Rand, s *kv.Store) [][]byte {
	var items [][]byte
	sent := map[uint64]uint64{}
	for range r.Intn(9) {
		if r.Intn(8) == 0 {
			items = append(items, drawnFault(r, s))
			continue
		}
		tx := drawnTx(r, s)
		tx.Seq = bank.Get(s, tx.Sender).Seq + sent[tx.Sender]
		sent[tx.Sender]++
		item, _ := msg.Encode(api.Item{Kind: api.ItemTx, Tx: tx})
		items = append(items, item)
	}
	return items
}

// drawnFault draws a fault of some validator.
func drawnFault(r *rand.Rand, s *kv.Store) []byte {
	now := stake.Chain(s).Height + 1
	f := api.Fault{Kind: []int{api.FaultDown, api.FaultDown, api.FaultDown, api.FaultDouble}[r.Intn(4)], Val: drawnVal(r, s), Height: now - min(now, uint64(r.Intn(3)))}
	item, _ := msg.Encode(api.Item{Kind: api.ItemFault, Fault: f})
	return item
}

// drawnVal draws a validator, if there is one.
func drawnVal(r *rand.Rand, s *kv.Store) uint64 {
	if all := power.Top(s, 100); len(all) > 0 && r.Intn(10) > 0 {
		return all[r.Intn(len(all))]
	}
	return drawnUser(r)
}

// drawnTx draws a transaction; its sequence isn't told yet.
func drawnTx(r *rand.Rand, s *kv.Store) api.Tx {
	val, n := drawnVal(r, s), uint64(r.Int63n(1<<(1+r.Intn(30))))
	m := api.Msg{Kind: int(drawnOf(r, 1, 2, 3, 3, 4, 4, 5, 5, 6, 6, 7, 8, 9, 10)), A: val, B: drawnVal(r, s), N: n}
	sender := drawnUser(r)
	switch m.Kind {
	case api.MsgCreate:
		m.A = drawnOf(r, 0, 500, 10000)
	case api.MsgUndelegate, api.MsgRedelegate:
		m.N = drawnOf(r, 0, n%1000, n)
	case api.MsgCommission:
		sender = val
	case api.MsgSpend:
		sender = stake.Params(s).Keeper
	}
	return api.Tx{Sender: sender, Fee: stake.Params(s).Fee + drawnOf(r, 0, 0, 1, 1000), Msg: used(m)}
}

// used tells a message without the numbers that its kind doesn't use.
func used(m api.Msg) api.Msg {
	a, b, n := msg.Uses(m.Kind)
	for i, uses := range []bool{a, b, n} {
		if !uses {
			*[]*uint64{&m.A, &m.B, &m.N}[i] = 0
		}
	}
	return m
}
