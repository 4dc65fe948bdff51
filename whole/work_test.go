package whole_test

import (
	"math/rand"
	"testing"

	"glean/api"
	"glean/app"
	"glean/keys"
	"glean/msg"
)

// workOn has an engine do a block, and fails if its beginning, or a withdrawal of it, takes more operations than it may.
func workOn(t *testing.T, e *app.Engine, items [][]byte) {
	t.Helper()
	x := stateOf(t, e.Store())
	if got := e.Begin().Ops; got > 40*(x.bonded()+1) {
		t.Fatalf("P30.7: a beginning with %d bonded took %d operations", x.bonded(), got)
	}
	for _, item := range items {
		i, _ := msg.Decode(item)
		if i.Tx.Msg.Kind != api.MsgWithdraw {
			e.Deliver(item)
			continue
		}
		x, k := stateOf(t, e.Store()), 0
		if d, there := x.delegations[api.Key{Kind: api.KeyDelegation, A: i.Tx.Msg.A, B: i.Tx.Sender}]; there {
			k = x.cutsBehind(i.Tx.Msg.A, d.Period)
		}
		if got := e.Deliver(item).Ops; got > 120+12*k {
			t.Fatalf("P30.7: a withdrawal behind %d cuts took %d operations", k, got)
		}
	}
	e.End()
}

// wantHistories fails unless each validator has as many histories as it may have, at most.
func wantHistories(t *testing.T, x state) {
	t.Helper()
	most := map[uint64]int{}
	for id := range x.vals {
		most[id]++
	}
	for k := range x.delegations {
		most[k.A]++
	}
	for k := range x.cuts {
		most[k.A]++
	}
	for k := range x.histories {
		most[k.A]--
		if most[k.A] < 0 {
			t.Fatalf("P30.8: %d has %v", k.A, x.histories)
		}
	}
}

// wantEnded fails if a key is a validator's that there isn't.
func wantEnded(t *testing.T, x state) {
	t.Helper()
	for _, k := range x.all {
		if _, there := x.vals[k.A]; !there && k.Kind >= api.KeyVal && k.Kind <= api.KeyCut {
			b, _ := keys.Make(k)
			t.Fatalf("P30.9: under %x lies something", b)
		}
	}
}

// P30.7 to P30.9: whatever run there is, however long.
func TestWork(t *testing.T) {
	r := rand.New(rand.NewSource(3009))
	ended := 0
	for range 30 {
		e := begun(t, laid(drawnGenesis(r)))
		had := map[uint64]bool{}
		for range 60 {
			workOn(t, e, drawnItems(r, e.Store()))
			x := stateOf(t, e.Store())
			wantHistories(t, x)
			wantEnded(t, x)
			for id := range had {
				if _, there := x.vals[id]; !there {
					ended++
					delete(had, id)
				}
			}
			for id := range x.vals {
				had[id] = true
			}
		}
	}
	if ended < 8 {
		t.Errorf("P30.9: only %d validators have ended", ended)
	}
}

// crowd tells a chain with many who may be bonded, and many behind the first one.
func crowd(vals, dels int) api.Genesis {
	g := api.Genesis{Params: api.Params{Max: 64, Unbond: 9, Entries: 16, Tax: 100, Double: 500, Down: 10, Age: 100000, Fee: 1, Keeper: 16}}
	for i := range uint64(dels) {
		g.Accounts = append(g.Accounts, api.Purse{Id: 16 + i, Coins: 1_000_000})
	}
	for i := range uint64(vals) {
		g.Vals = append(g.Vals, api.Founder{Op: 16 + i, Rate: 100 * i, Tokens: 900_000 - i})
	}
	return g
}

// P30.7: as many bonded as there may be, as many behind one as a genesis has, hundreds of blocks, and hundreds of cuts.
func TestWorkOfMany(t *testing.T) {
	e := begun(t, laid(crowd(64, 256)))
	var joins [][]byte
	for i := range uint64(256) {
		joins = append(joins, tx(16+i, 0, 9, delegate, 16, 1000))
	}
	workOn(t, e, joins)
	seq := uint64(1)
	for height := uint64(2); height < 300; height++ {
		items := [][]byte{tx(16, seq, 9, unjail), fault(down, 16, height)}
		seq++
		if height%50 == 0 {
			items = append(items, tx(17, height/50, 1, withdraw, 16), tx(16+height, 1, 1, withdraw, 16))
		}
		workOn(t, e, items)
	}
	x := stateOf(t, e.Store())
	wantHistories(t, x)
	if len(x.cuts) < 250 || x.bonded() != 63 && x.bonded() != 64 {
		t.Fatalf("P30.7: %d cuts, %d bonded", len(x.cuts), x.bonded())
	}
	var last [][]byte
	for i := range uint64(256) {
		last = append(last, tx(16+i, x.accounts[16+i].Seq, 1, withdraw, 16))
	}
	workOn(t, e, last)
	workOn(t, e, nil)
	wantHistories(t, stateOf(t, e.Store()))
}
