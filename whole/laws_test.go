package whole_test

import (
	"bytes"
	"math/rand"
	"slices"
	"testing"

	"glean/api"
	"glean/app"
	"glean/bank"
	"glean/keys"
	"glean/kv"
	"glean/stake"
)

// drawnNoise draws an item that is refused by msg.Decode, or by ante.Admit while the senders' coins and sequences are these.
func drawnNoise(r *rand.Rand, s *kv.Store) []byte {
	sender := drawnUser(r)
	a := bank.Get(s, sender)
	switch r.Intn(6) {
	case 0:
		return append(tx(sender, a.Seq, 100, unjail), 0)
	case 1:
		return make([]byte, api.MaxItem+1)
	case 2:
		return tx(uint64(r.Intn(16)), 0, 100, fund, 1)
	case 3:
		return tx(sender, a.Seq, top, unjail)
	case 4:
		return tx(sender, a.Seq+uint64(1000+r.Intn(100)), 100, send, 16, 1)
	}
	return nil
}

// P30.11: items that are no items, or aren't admitted, may stand between or not.
func TestSilence(t *testing.T) {
	r := rand.New(rand.NewSource(3012))
	for range 40 {
		x := drawnRun(t, r, 20)
		loud := begun(t, x.begin)
		through(t, x, func(height int, e *app.Engine, report api.Report) {
			var items [][]byte
			var kept []api.Reply
			for _, item := range x.blocks[height-1] {
				for r.Intn(2) == 0 {
					items = append(items, drawnNoise(r, loud.Store()))
				}
				items = append(items, item)
			}
			for range r.Intn(2) * (api.MaxItems - len(items)) {
				items = append(items, drawnNoise(r, loud.Store()))
			}
			got := do(t, loud, items)
			for _, reply := range got.Replies {
				if reply.Err/10 != 17 && reply.Err/10 != 18 {
					kept = append(kept, reply)
				}
			}
			got.Replies = kept
			report.Replies = slices.DeleteFunc(report.Replies, func(x api.Reply) bool { return x.Err/10 == 17 || x.Err/10 == 18 })
			wantReport(t, "P30.11", got, report)
			wantStore(t, "P30.11", loud.Store(), e.Store())
		})
	}
}

// leave has all who have a delegation take back all of it, as far as they may, in a block.
func leave(t *testing.T, e *app.Engine) {
	t.Helper()
	var items [][]byte
	x := stateOf(t, e.Store())
	for _, k := range x.all {
		if k.Kind != api.KeyDelegation {
			continue
		}
		a := x.accounts[k.B]
		items = append(items, tx(k.B, a.Seq, 0, undelegate, k.A, 0))
		a.Seq++
		x.accounts[k.B] = a
	}
	do(t, e, items)
}

// P30.12: if all leave, nothing is left but the pool, which is whole.
func TestAllGone(t *testing.T) {
	r := rand.New(rand.NewSource(3013))
	for range 60 {
		g := drawnGenesis(r)
		g.Params.Fee, g.Params.Unbond, g.Params.Entries = 0, drawnOf(r, 1, 2), drawnOf(r, 1, 16)
		e := begun(t, drawnOn(t, r, g, 0).begin)
		for range 30 {
			do(t, e, drawnItems(r, e.Store()))
		}
		for tries := 0; len(stateOf(t, e.Store()).delegations) > 0; tries++ {
			if leave(t, e); tries > 20 {
				t.Fatal("P30.12: some can't leave")
			}
		}
		wantGone(t, stateOf(t, e.Store()))
		do(t, e, [][]byte{tx(16, bank.Get(e.Store(), 16).Seq, 0, fund, 0)})
		wantGone(t, stateOf(t, e.Store()))
	}
}

// wantGone fails unless a state has no validator, and nothing of one.
func wantGone(t *testing.T, x state) {
	t.Helper()
	for _, k := range x.all {
		if k.Kind >= api.KeyVal && k.Kind <= api.KeyCut || k.Kind == api.KeyPower || k.Kind == api.KeyBonded || k.Kind == api.KeyHolds {
			t.Fatalf("P30.12: %+v is left", k)
		}
	}
	if len(x.vals) > 0 || x.accounts[api.Bonded].Coins > 0 || raw(x.pool).Cmp(scaled(natValue(api.Nat{x.accounts[api.Shared].Coins}))) != 0 {
		t.Fatalf("P30.12: %v, %v, the pool %v", x.vals, x.accounts, x.pool)
	}
}

// P30.15: behind two empty blocks a further one changes the Height alone, if nothing is under way.
func TestIdle(t *testing.T) {
	r := rand.New(rand.NewSource(3015))
	for range 60 {
		g := drawnGenesis(r)
		g.Params.Unbond = drawnOf(r, 1, 2)
		e := begun(t, laid(g))
		for range 20 {
			do(t, e, drawnItems(r, e.Store()))
		}
		do(t, e, nil)
		do(t, e, nil)
		for range 9 {
			x := stateOf(t, e.Store())
			if len(x.unbondings)+len(x.moves) > 0 {
				t.Fatal("P15.9: something is under way")
			}
			want := e.Store()
			stake.SetChain(want, api.Chain{Height: x.chain.Height + 1, Next: x.chain.Next})
			wantReport(t, "P30.15", do(t, e, nil), api.Report{Height: x.chain.Height + 1})
			wantStore(t, "P30.15", e.Store(), want)
		}
	}
}

// keyBytes tells a key's bytes.
func keyBytes(t *testing.T, k api.Key) []byte {
	t.Helper()
	b, e := keys.Make(k)
	return must(t, b, e)
}

// P30.15: also right behind a beginning without accounts, or without validators, and of one whose fees nobody is there for.
func TestIdleFromTheBeginning(t *testing.T) {
	for _, g := range []api.Genesis{{Params: byHand().Params}, {Params: byHand().Params, Accounts: byHand().Accounts}, byHand()} {
		e := begun(t, laid(g))
		if len(g.Accounts) > 0 {
			do(t, e, [][]byte{tx(17, 0, 9, send, 16, 0)})
		}
		do(t, e, nil)
		do(t, e, nil)
		was := e.Store()
		do(t, e, nil)
		if all := changedKeys(was, e.Store()); len(all) != 1 || !bytes.Equal(all[0], keyBytes(t, api.Key{Kind: api.KeyChain})) {
			t.Fatalf("P30.15: %x has changed", all)
		}
	}
}
