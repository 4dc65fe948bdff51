package audit_test

import (
	"testing"

	"glean/api"
	"glean/app"
	"glean/audit"
	"glean/genesis"
)

// The chapter's example: a validator of 3 tokens of two delegators, and a fee of 1.
func TestThird(t *testing.T) {
	a := begun(t, plain(api.Founder{Op: 16, Tokens: 1}))
	got := block(t, a, tx(17, 0, 0, delegate, 16, 2), tx(18, 0, 1, fund, 0))
	wantAudited(t, "P25.2: who joins", got, api.Audited{Val: 16, Del: 17, E: ratOf(fraction(0, 1)), Fits: true})
	got = block(t, a, tx(16, 0, 0, withdraw, 16), tx(17, 1, 0, withdraw, 16))
	wantAudited(t, "P25.2: a third", got,
		api.Audited{Val: 16, Del: 16, Q: parsed(t, "0.333333333333333333333333333333333333"), E: ratOf(fraction(1, 3)), P: 2, Fits: true},
		api.Audited{Val: 16, Del: 17, Q: parsed(t, "0.666666666666666666666666666666666666"), E: ratOf(fraction(2, 3)), P: 2, Fits: true},
	)
	got = block(t, a, tx(16, 1, 0, withdraw, 16))
	wantAudited(t, "P25.2: nothing is owed any more", got, api.Audited{Val: 16, Del: 16, E: ratOf(fraction(0, 1)), P: 2, Fits: true})
}

// P25.2: what is given at a block's beginning is shared among those who stood there then, with the tokens that there were then.
func TestTokensAtTheBeginning(t *testing.T) {
	a := begun(t, plain(api.Founder{Op: 16, Rate: 2500, Tokens: 4}))
	block(t, a, tx(21, 0, 16, fund, 0))
	got := block(t, a, tx(17, 0, 0, delegate, 16, 8), tx(21, 1, 16, fund, 0), tx(17, 1, 0, withdraw, 16), tx(16, 0, 0, delegate, 16, 4))
	wantAudited(t, "P25.2: 12 of 16 to the only one", got,
		api.Audited{Val: 16, Del: 17, E: ratOf(fraction(0, 1)), Fits: true},
		api.Audited{Val: 16, Del: 17, E: ratOf(fraction(0, 1)), P: 1, Fits: true},
		api.Audited{Val: 16, Del: 16, W: 12, E: ratOf(fraction(12, 1)), P: 3, Fits: true},
	)
	got = block(t, a, tx(17, 2, 0, undelegate, 16, 4), tx(16, 1, 0, withdraw, 16))
	wantAudited(t, "P25.2: 6 of 12 to each", got,
		api.Audited{Val: 16, Del: 17, W: 6, E: ratOf(fraction(6, 1)), P: 2, Fits: true},
		api.Audited{Val: 16, Del: 16, W: 6, E: ratOf(fraction(6, 1)), P: 2, Fits: true},
	)
	block(t, a, tx(21, 2, 16, fund, 0))
	got = block(t, a, tx(17, 3, 0, withdraw, 16))
	wantAudited(t, "P25.2: a third to whom 4 of 12 are left", got, api.Audited{Val: 16, Del: 17, W: 4, E: ratOf(fraction(4, 1)), P: 2, Fits: true})
}

// P25.2: both payments of a redelegation are audited, each of its validator, in their order; both are held anew.
func TestBothOfARedelegation(t *testing.T) {
	a := begun(t, plain(api.Founder{Op: 16, Tokens: 10}, api.Founder{Op: 18, Tokens: 20}))
	block(t, a, tx(17, 0, 0, delegate, 16, 10), tx(17, 1, 0, delegate, 18, 20), tx(21, 0, 60, fund, 0))
	got := block(t, a, tx(17, 2, 0, redelegate, 16, 18, 4), tx(21, 1, 60, fund, 0))
	wantAudited(t, "P25.2: of 16, then of 18", got,
		api.Audited{Val: 16, Del: 17, W: 10, E: ratOf(fraction(10, 1)), P: 1, Fits: true},
		api.Audited{Val: 18, Del: 17, W: 20, E: ratOf(fraction(20, 1)), P: 1, Fits: true},
	)
	got = block(t, a, tx(17, 3, 0, redelegate, 18, 16, 24), tx(16, 0, 0, withdraw, 16))
	wantAudited(t, "P25.2: of 18, then of 16", got,
		api.Audited{Val: 18, Del: 17, W: 24, E: ratOf(fraction(24, 1)), P: 1, Fits: true},
		api.Audited{Val: 16, Del: 17, W: 6, E: ratOf(fraction(6, 1)), P: 1, Fits: true},
		api.Audited{Val: 16, Del: 16, W: 20, E: ratOf(fraction(20, 1)), P: 4, Fits: true},
	)
}

// P25.2: a delegation of which nothing is left is dropped: it isn't owed anything, and begins anew if it joins again.
func TestDropped(t *testing.T) {
	a := begun(t, plain(api.Founder{Op: 16, Tokens: 10}))
	block(t, a, tx(17, 0, 0, delegate, 16, 10), tx(21, 0, 20, fund, 0))
	got := block(t, a, tx(17, 1, 0, undelegate, 16, 0), tx(21, 1, 20, fund, 0))
	wantAudited(t, "P25.2: who leaves", got, api.Audited{Val: 16, Del: 17, W: 10, E: ratOf(fraction(10, 1)), P: 1, Fits: true})
	got = block(t, a, tx(17, 2, 0, delegate, 16, 1))
	wantAudited(t, "P25.2: who comes back", got, api.Audited{Val: 16, Del: 17, E: ratOf(fraction(0, 1)), Fits: true})
	got = block(t, a, tx(16, 0, 0, withdraw, 16))
	wantAudited(t, "P25.2: who has stayed", got, api.Audited{Val: 16, Del: 16, W: 30, E: ratOf(fraction(30, 1)), P: 4, Fits: true})
}

// P25.2: a validator that ends owes nobody anything; one that is created, also anew, owes nothing yet.
func TestEndedAndCreatedAnew(t *testing.T) {
	a := begun(t, plain(api.Founder{Op: 16, Rate: 5000, Tokens: 10}))
	block(t, a, tx(21, 0, 7, fund, 0))
	got := block(t, a, tx(16, 0, 0, undelegate, 16, 0), tx(16, 1, 3, create, 0, 20))
	wantAudited(t, "P25.2: ended, and created anew", got,
		api.Audited{Val: 16, Del: 16, W: 3, Q: parsed(t, "0.5"), E: ratOf(fraction(7, 2)), P: 1, Fits: true},
		api.Audited{Val: 16, Del: 16, E: ratOf(fraction(0, 1)), Fits: true},
	)
	got = block(t, a, tx(17, 0, 0, create, 0, 5), tx(16, 2, 0, withdraw, 16))
	wantAudited(t, "P25.2: another one, and the first reward of the new one", got,
		api.Audited{Val: 17, Del: 17, E: ratOf(fraction(0, 1)), Fits: true},
		api.Audited{Val: 16, Del: 16, W: 3, E: ratOf(fraction(3, 1)), P: 1, Fits: true},
	)
}

// P25.2: where nothing is paid, nothing is audited; what is refused doesn't close a period either.
func TestNothingPaid(t *testing.T) {
	a := begun(t, plain(api.Founder{Op: 16, Rate: 5000, Tokens: 10}))
	block(t, a, tx(21, 0, 20, fund, 5), tx(17, 0, 0, send, 18, 1), tx(21, 1, 0, spend, 17, 1))
	items := [][]byte{
		tx(16, 0, 0, commission),
		tx(17, 1, 0, withdraw, 16), tx(17, 2, 0, undelegate, 16, 1), tx(17, 3, 0, delegate, 16, 0), tx(17, 4, 0, delegate, 16, 5000), tx(17, 5, 0, delegate, 18, 1), // refused
		tx(17, 7, 0, withdraw, 16), // isn't admitted
		{1, 2, 3}, nil,             // are no items
	}
	report, all, e := a.Block(items)
	if e != api.OK || len(report.Replies) != len(items) || report.Replies[0].N != 10 || len(all) != 0 {
		t.Fatalf("P25.2: %+v, %v, %v", report, all, e)
	}
	got := block(t, a, tx(16, 1, 0, withdraw, 16))
	wantAudited(t, "P25.2: one period, closed by the payment", got, api.Audited{Val: 16, Del: 16, W: 10, E: ratOf(fraction(10, 1)), P: 1, Fits: true})
}

// P25.2: a block of more items than may be is refused as app.Block refuses it, and nothing has changed.
func TestTooManyItems(t *testing.T) {
	g := plain(api.Founder{Op: 16, Tokens: 10})
	a, like := begun(t, g), begun(t, g)
	for _, x := range []*audit.Audit{a, like} {
		block(t, x, tx(17, 0, 7, delegate, 16, 3))
	}
	items := [][]byte{tx(16, 0, 0, withdraw, 16), fault(double, 16, 1)}
	for len(items) < 257 {
		items = append(items, tx(17, uint64(len(items))-1, 1, fund, 0))
	}
	report, all, e := a.Block(items)
	if e != 201 || len(all) != 0 || !sameReport(report, api.Report{}) {
		t.Fatalf("P25.2: %+v, %v, %v", report, all, e)
	}
	if !sameStore(a.Store(), like.Store()) {
		t.Fatal("P25.2: a refused block has changed the store")
	}
	wantOwes(t, "P25.2: behind a refused block", a, 16, fraction(0, 1))
	wantAlike(t, a, like, items[:256])
	wantAlike(t, a, like, nil)
}

// P25.2: of as many items as may be each payment is audited.
func TestMostItems(t *testing.T) {
	a := begun(t, plain(api.Founder{Op: 16, Tokens: 10}))
	var items [][]byte
	var want []api.Audited
	for i := range uint64(256) {
		items = append(items, tx(16, i, 1, withdraw, 16))
		want = append(want, api.Audited{Val: 16, Del: 16, E: ratOf(fraction(0, 1)), P: 1, Fits: true})
	}
	wantAudited(t, "P25.2: 256 items", block(t, a, items...), want...)
	got := block(t, a, tx(16, 256, 0, withdraw, 16))
	wantAudited(t, "P25.2: behind them", got, api.Audited{Val: 16, Del: 16, W: 256, E: ratOf(fraction(256, 1)), P: 1, Fits: true})
}

// wantAlike fails unless two audits do a block alike.
func wantAlike(t *testing.T, x, y *audit.Audit, items [][]byte) {
	t.Helper()
	one, ones, e := x.Block(items)
	wantErr(t, "P25.2: Block", e, api.OK)
	two, twos, e := y.Block(items)
	wantErr(t, "P25.2: Block", e, api.OK)
	if !sameReport(one, two) || !sameStore(x.Store(), y.Store()) {
		t.Fatalf("%+v, not %+v", one, two)
	}
	wantAudited(t, "DOC.md, 9: the same blocks", ones, twos...)
	for id := uint64(15); id < 22; id++ {
		ones, coveredOne := x.Owes(id)
		twos, coveredTwo := y.Owes(id)
		if !sameRat(ones, twos) || coveredOne != coveredTwo {
			t.Fatalf("DOC.md, 9: behind the same blocks: %v, %v", ones, twos)
		}
	}
}

// P25.5: a block is what app.Block does of it, Ops included.
func TestTheEnginesBlock(t *testing.T) {
	g := plain(api.Founder{Op: 16, Tokens: 10}, api.Founder{Op: 18, Tokens: 5})
	g.Params.Unbond, g.Params.Max = 1, 1
	a := begun(t, g)
	s, _ := genesis.Make(laid(g))
	engine, _ := app.New(s)
	for _, items := range [][][]byte{
		nil,
		{tx(17, 0, 5, delegate, 18, 20), tx(16, 0, 5, undelegate, 16, 2)},
		{fault(down, 18, 2), tx(17, 1, 3, withdraw, 18), tx(17, 2, 3, withdraw, 19)},
		{tx(18, 0, 0, unjail), {0x54}},
		{},
	} {
		got, _, e := a.Block(items)
		wantErr(t, "P25.2: Block", e, api.OK)
		want, _ := engine.Block(items)
		if !sameReport(got, want) || !sameStore(a.Store(), engine.Store()) {
			t.Fatalf("P25.5: %+v, not %+v", got, want)
		}
	}
}
