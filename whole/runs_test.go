package whole_test

import (
	"math/rand"
	"testing"

	"glean/api"
	"glean/app"
	"glean/bank"
	"glean/kv"
	"glean/power"
	"glean/queue"
	"glean/stake"
)

// run: a beginning that is taken, and blocks.
type run struct {
	g      api.Genesis
	begin  []byte
	blocks [][][]byte
}

// users: who takes part in drawn runs.
func users() []uint64 { return []uint64{16, 17, 18, 19, 20, 255, 256, 1 << 40} }

func drawnUser(r *rand.Rand) uint64 { return users()[r.Intn(len(users()))] }

// drawnOf draws one of these numbers.
func drawnOf(r *rand.Rand, all ...uint64) uint64 { return all[r.Intn(len(all))] }

// drawnGenesis draws how a chain begins: with few coins or very many.
func drawnGenesis(r *rand.Rand) api.Genesis {
	parts := func() uint64 { return drawnOf(r, 0, 1, 777, 2500, 3333, 5000, 9999, 10000) }
	g := api.Genesis{Params: api.Params{
		Max: drawnOf(r, 1, 2, 3, 64), Unbond: drawnOf(r, 1, 3, 9, 100000), Entries: drawnOf(r, 1, 3, 16), Tax: parts(), Double: parts(), Down: parts(),
		Jail: drawnOf(r, 0, 0, 1, 5), Age: drawnOf(r, 1, 9, 100000), Fee: drawnOf(r, 0, 1, 100), Keeper: drawnUser(r),
	}}
	for _, id := range users() {
		coins := 1 + uint64(r.Int63n(1<<(8+r.Intn(49))))
		g.Accounts = append(g.Accounts, api.Purse{Id: id, Coins: coins})
		if r.Intn(2) == 0 {
			g.Vals = append(g.Vals, api.Founder{Op: id, Rate: parts(), Tokens: 1 + coins/2})
		}
	}
	return g
}

// drawnRun draws a run of so many blocks: each of its items is drawn for the state that lies there when its block begins.
func drawnRun(t *testing.T, r *rand.Rand, blocks int) run {
	t.Helper()
	return drawnOn(t, r, drawnGenesis(r), blocks)
}

// drawnOn draws a run that begins so.
func drawnOn(t *testing.T, r *rand.Rand, g api.Genesis, blocks int) run {
	t.Helper()
	x := run{g: g, begin: laid(g)}
	e := begun(t, x.begin)
	for range blocks {
		items := drawnItems(r, e.Store())
		do(t, e, items)
		x.blocks = append(x.blocks, items)
	}
	return x
}

// drawnItems draws items of a block; most of them can be done.
func drawnItems(r *rand.Rand, s *kv.Store) [][]byte {
	var items [][]byte
	sent := map[uint64]uint64{}
	for range r.Intn(9) {
		switch r.Intn(12) {
		case 0:
			items = append(items, drawnFault(r, s))
		case 1:
			items = append(items, drawnBytes(r))
		default:
			sender, kind, uses := drawnMessage(r, s)
			fee := stake.Params(s).Fee + drawnOf(r, 0, 0, 1, 1000)
			items = append(items, tx(sender, bank.Get(s, sender).Seq+sent[sender], fee, kind, uses...))
			sent[sender]++
		}
	}
	return items
}

// drawnBytes draws bytes that are hardly an item.
func drawnBytes(r *rand.Rand) []byte {
	b := make([]byte, r.Intn(60))
	r.Read(b)
	return b
}

// drawnFault draws a fault of some validator, often one that something has left.
func drawnFault(r *rand.Rand, s *kv.Store) []byte {
	val := drawnVal(r, s)
	for _, id := range users() {
		if len(queue.From(s, id)) > 0 && r.Intn(3) == 0 {
			val = id
		}
	}
	now := stake.Chain(s).Height + 1
	return fault(byte(drawnOf(r, down, down, down, double, 3)), val, now-min(now, uint64(r.Intn(8)))+uint64(r.Intn(9)/8))
}

// drawnVal draws a validator, if there is one.
func drawnVal(r *rand.Rand, s *kv.Store) uint64 {
	if all := power.Top(s, 100); len(all) > 0 && r.Intn(10) > 0 {
		return all[r.Intn(len(all))]
	}
	return drawnUser(r)
}

// drawnMessage draws who sends what.
func drawnMessage(r *rand.Rand, s *kv.Store) (uint64, byte, []uint64) {
	val, n, sender := drawnVal(r, s), uint64(r.Int63n(1<<(1+r.Intn(30)))), drawnUser(r)
	kind := byte(drawnOf(r, send, create, delegate, delegate, undelegate, undelegate, redelegate, redelegate, withdraw, withdraw, commission, unjail, unjail, fund, spend))
	switch kind {
	case send:
		return sender, kind, []uint64{drawnOf(r, drawnUser(r), drawnUser(r), 15), n}
	case create:
		return sender, kind, []uint64{drawnOf(r, 0, 500, 10000), n}
	case delegate:
		return sender, kind, []uint64{val, n}
	case undelegate:
		return sender, kind, []uint64{val, drawnOf(r, 0, n%1000, n)}
	case redelegate:
		return sender, kind, []uint64{val, drawnVal(r, s), drawnOf(r, 0, n%1000, n)}
	case withdraw:
		return sender, kind, []uint64{val}
	case commission:
		return val, kind, nil
	case unjail:
		return sender, kind, nil
	case fund:
		return sender, kind, []uint64{n}
	}
	return stake.Params(s).Keeper, kind, []uint64{drawnUser(r), n}
}

// through has an engine do a run, and tells another function of each block.
func through(t *testing.T, x run, see func(height int, e *app.Engine, report api.Report)) {
	t.Helper()
	e := begun(t, x.begin)
	for i, items := range x.blocks {
		report := do(t, e, items)
		see(i+1, e, report)
	}
}
