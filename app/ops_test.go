package app_test

import (
	"math/rand"
	"testing"

	"glean/api"
	"glean/app"
)

// wantWithdraw does a withdrawal and fails unless it takes as many operations as P20.7 lets it, at most; it tells how many.
func wantWithdraw(t *testing.T, e *app.Engine, b *book, val, del uint64) int {
	t.Helper()
	k := 0
	for p := range b.cuts {
		if p.id == val && p.period > b.dels[pair{val, del}].Period {
			k++
		}
	}
	item := tx(del, b.seq(del), 1, withdraw, val)
	got, want := e.Deliver(item), b.deliver(item)
	wantReply(t, "P20.3: MsgWithdraw", got, want)
	if got.Ops > 120+12*k {
		t.Fatalf("P20.7: a withdrawal behind %d cuts took %d operations", k, got.Ops)
	}
	return got.Ops
}

// wantBegin begins a block and fails unless that takes as many operations as P20.7 lets it, at most; it tells how many.
func wantBegin(t *testing.T, e *app.Engine, b *book) int {
	t.Helper()
	n := 0
	for _, v := range b.vals {
		if v.Bonded {
			n++
		}
	}
	got := e.Begin()
	wantReport(t, "P20.2: Begin", got, b.begin())
	if got.Ops > 40*(n+1) {
		t.Fatalf("P20.7: a beginning with %d bonded took %d operations", n, got.Ops)
	}
	return got.Ops
}

// end ends a block.
func end(t *testing.T, e *app.Engine, b *book) {
	t.Helper()
	wantReport(t, "P20.2: End", e.End(), b.finish())
}

// P20.7: what a withdrawal takes hangs on the cuts alone, and few operations are taken for each; one who has withdrawn needn't go along them again.
func TestWithdrawBehindCuts(t *testing.T) {
	b := fit()
	b.params[0].Jail, b.params[0].Down = 0, 1
	b.mint(16, 10_000_000)
	b.create(16, 1000, 9_000_000)
	for del := uint64(17); del < 24; del++ {
		b.delegate(16, del, 100)
	}
	b.elect()
	e := engine(t, b)
	for round := range 7 {
		for range 30 * round {
			items := [][]byte{fault(down, 16, b.stand().Height), tx(16, b.seq(16), 2, unjail)}
			got, _ := e.Block(items)
			wantReport(t, "P20.4: Block", got, b.block(items))
		}
		wantBegin(t, e, b)
		who := 17 + uint64(round)
		first := wantWithdraw(t, e, b, 16, who)
		if again := wantWithdraw(t, e, b, 16, who); round > 0 && again >= first {
			t.Errorf("P20.7: a second withdrawal took %d operations, the first one %d", again, first)
		}
		end(t, e, b)
	}
	if len(b.cuts) != 30*21 {
		t.Errorf("P20.7: only %d cuts", len(b.cuts))
	}
	wantBook(t, "P20.7: behind it", e.Store(), b)
	wantSound(t, e.Store())
}

// P20.7: however many delegate, and however many blocks have gone by.
func TestWithdrawOfMany(t *testing.T) {
	b := fit()
	b.create(16, 1000, 100)
	b.elect()
	few := engine(t, b)
	for del := uint64(1000); del < 3000; del++ {
		b.mint(del, 100)
		b.delegate(16, del, 10)
	}
	many := engine(t, b)
	least := few.Begin().Ops
	if got := wantBegin(t, many, b); got > least {
		t.Errorf("P20.7: a beginning took %d operations with many, %d with few", got, least)
	}
	first := wantWithdraw(t, many, b, 16, 1000)
	end(t, many, b)
	for i := range uint64(1000) {
		many.Block([][]byte{tx(22, i, 1, send, 23, 0)})
		b.block([][]byte{tx(22, i, 1, send, 23, 0)})
	}
	if got := wantBegin(t, many, b); got > 80 {
		t.Errorf("P20.7: a beginning took %d operations", got)
	}
	if got := wantWithdraw(t, many, b, 16, 1000); got > first+2 {
		t.Errorf("P20.7: a withdrawal took %d operations, the first one %d", got, first)
	}
	wantWithdraw(t, many, b, 16, 2999)
	wantWithdraw(t, many, b, 17, 2999)
	wantWithdraw(t, many, b, 16, 17)
	end(t, many, b)
	wantBook(t, "P20.7: behind it", many.Store(), b)
}

// P20.7: a beginning with as many bonded as there may be; validators that aren't bonded don't count.
func TestBeginOfMany(t *testing.T) {
	for _, max := range []uint64{1, 2, 63, 64} {
		b := newBook()
		b.params = []api.Params{{Max: max, Unbond: 1, Entries: 1, Tax: 100, Fee: 1, Keeper: 18}}
		b.chain = []api.Chain{{Next: 1}}
		for id := uint64(16); id < 216; id++ {
			b.mint(id, 1000)
			b.create(id, id, 10*id)
		}
		b.elect()
		e := engine(t, b)
		for range 3 {
			wantBegin(t, e, b)
			item := tx(16, b.seq(16), 77, send, 17, 0)
			e.Deliver(item)
			b.deliver(item)
			end(t, e, b)
		}
		wantBook(t, "P20.7: behind it", e.Store(), b)
	}
}

// P20.7: in whatever runs.
func TestOpsOfDrawnRuns(t *testing.T) {
	r := rand.New(rand.NewSource(306))
	for range 60 {
		b := drawnRun(r)
		b.params[0].Jail, b.params[0].Fee = 0, 1
		e := engine(t, b)
		for range 60 {
			wantBegin(t, e, b)
			for range r.Intn(8) {
				item := drawnItem(r, b)
				wantReply(t, "P20.3: Deliver", e.Deliver(item), b.deliver(item))
			}
			val, del := drawnPair(r, b)
			wantWithdraw(t, e, b, val, del)
			end(t, e, b)
		}
	}
}
