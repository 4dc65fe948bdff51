package whole_test

import (
	"bytes"
	"math/rand"
	"slices"
	"testing"

	"glean/api"
	"glean/bank"
	"glean/kv"
	"glean/msg"
	"glean/stake"
)

// changedKeys tells the keys under which another thing lies now, or nothing, or something where nothing lay.
func changedKeys(was, now *kv.Store) [][]byte {
	var all [][]byte
	x, y := was.Dump(), now.Dump()
	for len(x)+len(y) > 0 {
		switch {
		case len(y) == 0 || len(x) > 0 && bytes.Compare(x[0].Key, y[0].Key) < 0:
			all, x = append(all, x[0].Key), x[1:]
		case len(x) == 0 || bytes.Compare(x[0].Key, y[0].Key) > 0:
			all, y = append(all, y[0].Key), y[1:]
		default:
			if !bytes.Equal(x[0].Value, y[0].Value) {
				all = append(all, x[0].Key)
			}
			x, y = x[1:], y[1:]
		}
	}
	return all
}

// wantFeeAlone fails unless a transaction has changed its fee and its sequence, and nothing else.
func wantFeeAlone(t *testing.T, was, now *kv.Store, x api.Tx) {
	t.Helper()
	want := was.Copy()
	must(t, 0, bank.Move(want, x.Sender, api.Collector, x.Fee))
	must(t, 0, bank.Bump(want, x.Sender))
	wantStore(t, "P30.5: a message that is refused", now, want)
}

// P30.5: item by item.
func TestRefused(t *testing.T) {
	r := rand.New(rand.NewSource(3005))
	paid, free := 0, 0
	for range 40 {
		e := begun(t, laid(drawnGenesis(r)))
		for range 30 {
			e.Begin()
			items := drawnItems(r, e.Store())
			if r.Intn(3) == 0 {
				items = slices.Concat(items, items)
			}
			for _, item := range items {
				was := e.Store()
				reply := e.Deliver(item)
				if reply.Err == api.OK {
					continue
				}
				i, _ := msg.Decode(item)
				if i.Kind == api.ItemTx && reply.Err/10 != 18 {
					paid++
					wantFeeAlone(t, was, e.Store(), i.Tx)
					continue
				}
				free++
				if all := changedKeys(was, e.Store()); len(all) > 0 {
					t.Fatalf("P30.5: %v of %x has changed %x", reply.Err, item, all)
				}
			}
			e.End()
		}
	}
	if paid < 500 || free < 500 {
		t.Errorf("P30.5: only %d that have paid, %d that haven't", paid, free)
	}
}

// refusals tells transactions whose messages are refused by a chain of twoVals, and one of each kind of error.
func refusals() map[api.Errno][]byte {
	return map[api.Errno][]byte{
		api.ErrBankShort: tx(16, 0, 3, send, 17, 99999), api.ErrAppTo: tx(16, 0, 3, send, 15, 1), api.ErrStakeTwice: tx(16, 0, 3, create, 0, 1),
		api.ErrStakeRate: tx(18, 0, 3, create, 10001, 1), api.ErrStakeZero: tx(16, 0, 3, delegate, 16, 0), api.ErrStakeNone: tx(16, 0, 3, delegate, 18, 1),
		api.ErrStakeMuch: tx(18, 0, 3, undelegate, 16, 50), api.ErrShareMuch: tx(18, 0, 3, undelegate, 16, 1000), api.ErrStakeSelf: tx(18, 0, 3, redelegate, 16, 16, 1),
		api.ErrDistNone: tx(18, 0, 3, withdraw, 17), api.ErrDistSmall: tx(16, 0, 3, commission), api.ErrSlashNone: tx(18, 0, 3, unjail), api.ErrSlashFree: tx(16, 0, 3, unjail),
		api.ErrDistPool: tx(19, 0, 3, spend, 17, 1), api.ErrAppKeeper: tx(16, 0, 3, spend, 17, 1),
	}
}

// P30.5: by hand, one of each error that a message of a young chain may meet; each is refused alike when it comes again, till its sequence is right.
func TestRefusedByHand(t *testing.T) {
	g := api.Genesis{Params: api.Params{Max: 2, Unbond: 9, Entries: 1, Age: 50, Fee: 3, Keeper: 19}, Vals: []api.Founder{{Op: 16, Tokens: 100}, {Op: 17, Tokens: 50}}}
	for id := uint64(16); id < 20; id++ {
		g.Accounts = append(g.Accounts, api.Purse{Id: id, Coins: 1000})
	}
	for want, item := range refusals() {
		e := begun(t, laid(g))
		do(t, e, [][]byte{tx(18, 0, 3, delegate, 16, 20)})
		i, _ := msg.Decode(item)
		i.Tx.Seq = bank.Get(e.Store(), i.Tx.Sender).Seq
		item, _ = msg.Encode(i)
		e.Begin()
		was := e.Store()
		if reply := e.Deliver(item); reply.Err != want || reply.N != 0 || len(reply.Shares.Raw)+len(reply.Paid) > 0 {
			t.Fatalf("P30.5: %+v, not %v", reply, want)
		}
		wantFeeAlone(t, was, e.Store(), i.Tx)
		was = e.Store()
		if reply := e.Deliver(item); reply.Err != api.ErrAnteSeq || !sameStore(was, e.Store()) {
			t.Fatalf("P30.5: a second time: %v", reply.Err)
		}
		if stake.Chain(e.Store()).Height != 2 {
			t.Fatal("P30.5: another height")
		}
	}
}
