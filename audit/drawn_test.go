package audit_test

import (
	"math/rand"
	"testing"

	"glean/api"
	"glean/audit"
	"glean/bank"
	"glean/kv"
	"glean/msg"
	"glean/power"
	"glean/queue"
	"glean/sound"
	"glean/stake"
)

// users: who takes part in drawn runs.
func users() []uint64 { return []uint64{16, 17, 18, 19, 255, 256, top} }

func drawnUser(r *rand.Rand) uint64 { return users()[r.Intn(len(users()))] }

// drawnOf draws one of these numbers.
func drawnOf(r *rand.Rand, all ...uint64) uint64 { return all[r.Intn(len(all))] }

// drawnGenesis draws how a chain begins: with few coins or very many.
func drawnGenesis(r *rand.Rand) api.Genesis {
	parts := func() uint64 { return drawnOf(r, 0, 1, 777, 2500, 3333, 5000, 9999, 10000) }
	g := api.Genesis{Params: api.Params{
		Max: drawnOf(r, 1, 2, 3, 64), Unbond: drawnOf(r, 1, 3, 9, 100000), Entries: drawnOf(r, 1, 3, 16), Tax: parts(), Double: parts(), Down: parts(),
		Jail: drawnOf(r, 0, 0, 1, 5), Age: drawnOf(r, 1, 9, 100000), Fee: drawnOf(r, 0, 1, 100), Keeper: drawnUser(r),
	}}
	for _, id := range users() {
		coins := 1 + uint64(r.Int63n(1<<(8+r.Intn(49))))
		g.Accounts = append(g.Accounts, api.Purse{Id: id, Coins: coins})
		if r.Intn(2) == 0 {
			g.Vals = append(g.Vals, api.Founder{Op: id, Rate: parts(), Tokens: 1 + coins/2})
		}
	}
	return g
}

// drawnItems draws items of a block for a state that lies there when it begins; most of them can be done.
func drawnItems(r *rand.Rand, s *kv.Store) [][]byte {
	var items [][]byte
	sent := map[uint64]uint64{}
	for range r.Intn(9) {
		switch r.Intn(12) {
		case 0:
			items = append(items, drawnFault(r, s))
			continue
		case 1:
			raw := make([]byte, r.Intn(60))
			r.Read(raw)
			items = append(items, raw)
			continue
		}
		tx := drawnTx(r, s)
		tx.Seq = bank.Get(s, tx.Sender).Seq + sent[tx.Sender]
		sent[tx.Sender]++
		item, _ := msg.Encode(api.Item{Kind: api.ItemTx, Tx: tx})
		items = append(items, item)
	}
	return items
}

// drawnFault draws a fault of some validator.
func drawnFault(r *rand.Rand, s *kv.Store) []byte {
	now := stake.Chain(s).Height + 1
	return fault(byte(drawnOf(r, down, down, down, double, 3)), drawnCulprit(r, s), now-min(now, uint64(r.Intn(8)))+uint64(r.Intn(9)/8))
}

// drawnCulprit draws a validator, often one that something has left.
func drawnCulprit(r *rand.Rand, s *kv.Store) uint64 {
	var all []uint64
	for _, id := range users() {
		if len(queue.From(s, id)) > 0 {
			all = append(all, id)
		}
	}
	if len(all) == 0 || r.Intn(2) == 0 {
		return drawnVal(r, s)
	}
	return all[r.Intn(len(all))]
}

// drawnVal draws a validator, if there is one.
func drawnVal(r *rand.Rand, s *kv.Store) uint64 {
	if all := power.Top(s, 100); len(all) > 0 && r.Intn(10) > 0 {
		return all[r.Intn(len(all))]
	}
	return drawnUser(r)
}

// drawnTx draws a transaction; its sequence isn't told yet.
func drawnTx(r *rand.Rand, s *kv.Store) api.Tx {
	val, n := drawnVal(r, s), uint64(r.Int63n(1<<(1+r.Intn(30))))
	m := api.Msg{Kind: int(drawnOf(r, send, create, delegate, delegate, undelegate, undelegate, redelegate, redelegate, withdraw, withdraw, commission, unjail, unjail, fund, spend)), A: val, B: drawnVal(r, s), N: n}
	sender := drawnUser(r)
	switch m.Kind {
	case create:
		m.A = drawnOf(r, 0, 500, 10000)
	case undelegate, redelegate:
		m.N = drawnOf(r, 0, n%1000, n)
	case commission:
		sender = val
	case unjail:
		sender = drawnUser(r)
	case spend:
		sender = stake.Params(s).Keeper
	}
	return api.Tx{Sender: sender, Fee: stake.Params(s).Fee + drawnOf(r, 0, 0, 1, 1000), Msg: used(m)}
}

// used tells a message without the numbers that its kind doesn't use.
func used(m api.Msg) api.Msg {
	a, b, n := msg.Uses(m.Kind)
	for i, uses := range []bool{a, b, n} {
		if !uses {
			*[]*uint64{&m.A, &m.B, &m.N}[i] = 0
		}
	}
	return m
}

// wantBlock fails unless an audit does a block as the reckoning beside it tells, and tells of everybody what is owed.
func wantBlock(t *testing.T, a *audit.Audit, b *beside, items [][]byte) {
	t.Helper()
	report, all, e := a.Block(items)
	wantErr(t, "P25.2: Block", e, api.OK)
	want, meant := b.block(items)
	if !sameReport(report, want) {
		t.Fatalf("P25.5: %+v, not %+v", report, want)
	}
	wantAudited(t, "P25.2: drawn", all, meant...)
	for _, x := range all {
		if !x.Fits {
			t.Fatalf("P25.4: %+v", x)
		}
	}
	for _, id := range users() {
		wantOwes(t, "P25.3: drawn", a, id, b.owes(id))
	}
	if !sameStore(a.Store(), b.engine.Store()) {
		t.Fatal("P25.5: another store")
	}
}

// P25.2 to P25.5: whatever is done, each payment is audited as another reckoning tells, fits, and is covered; the report and the store are the engine's.
func TestDrawnRuns(t *testing.T) {
	met := map[string]int{}
	for seed := range int64(200) {
		r := rand.New(rand.NewSource(2500 + seed))
		g := drawnGenesis(r)
		a, b := begun(t, g), newBeside(t, g)
		b.met = met
		for range 30 {
			wantBlock(t, a, b, drawnItems(r, b.engine.Store()))
		}
		if rule := sound.Check(a.Store()); rule != 0 {
			t.Fatalf("P20.5: rule %d is broken", rule)
		}
	}
	for _, what := range []string{"a cut", "several cuts", "a fault without a cut", "a payment by a fault", "two payments by an item", "something owed and paid", "a delegation that goes", "a validator that ends", "shares without tokens"} {
		if met[what] < 10 {
			t.Errorf("drawn runs have met %s %d times", what, met[what])
		}
	}
	t.Log(met)
}
