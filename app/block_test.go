package app_test

import (
	"slices"
	"testing"

	"glean/api"
	"glean/dec"
)

// P20.2, P20.3: the chapter's example: a fee that is paid in one block is given at the next one's beginning, and withdrawn.
func TestExample(t *testing.T) {
	b := fit()
	b.create(16, 0, 10)
	b.elect()
	e := engine(t, b)
	r := doBlock(t, e, b, tx(17, 0, 5, send, 18, 1))
	if len(r.Gave) != 0 {
		t.Errorf("P20.2: nothing was paid yet: %v", r.Gave)
	}
	r = doBlock(t, e, b, tx(16, 0, 1, withdraw, 16))
	if len(r.Gave) != 1 {
		t.Fatalf("P20.2: %v", r.Gave)
	}
	wantPaid(t, "P20.2: what 16 is given", r.Gave[0], api.Paid{Val: 16, Q: dec.Of(5)})
	wantPaid(t, "P20.3: what 16 is paid", r.Replies[0].Paid[0], api.Paid{Val: 16, Del: 16, W: 5, Left: dec.Of(10), Tokens: 10, Shares: dec.Of(10)})
}

// P20.2: Begin makes the height one greater and shares out the fees, the tax to the pool; nothing else.
func TestBegin(t *testing.T) {
	b := alone()
	b.params[0].Tax = 2000
	b.create(19, 0, 50)
	b.elect()
	b.move(20, collector, 100)
	e := engine(t, b)
	got := e.Begin()
	wantReport(t, "P20.2: Begin", got, api.Report{Height: 5, Gave: []api.Paid{
		{Val: 16, Q: dec.Of(54)}, {Val: 19, Q: dec.Of(20)}, // 80 are left of 100: 60, of which a tenth is the commission, and 20
	}})
	b.begin()
	wantBook(t, "P20.2: behind Begin", e.Store(), b)
	wantDec(t, "P20.2: the pool", decOf(b.pool), dec.Of(20))
	wantReport(t, "P20.2: a second Begin", e.Begin(), api.Report{Height: 6})
	b.begin()
	wantBook(t, "P20.2: behind a second Begin", e.Store(), b)
}

// P20.2: a block in which nobody is bonded has the fees go to the pool.
func TestBeginOfNobody(t *testing.T) {
	b := fit()
	b.move(20, collector, 7)
	e := engine(t, b)
	wantReport(t, "P20.2: Begin", e.Begin(), api.Report{Height: 5})
	b.begin()
	wantBook(t, "P20.2: behind Begin", e.Store(), b)
	wantDec(t, "P20.2: the pool", decOf(b.pool), dec.Of(7))
}

// P20.2: End has come back what is due at this height, and elects; its report tells the height, what matured, who went and came, and no Ops.
func TestEnd(t *testing.T) {
	b := alone()
	b.params[0].Max = 1
	b.undelegate(16, 17, 20)
	b.create(19, 0, 200)
	b.create(20, 0, 5)
	b.elect()
	b.chain[0].Height = 11
	e := engine(t, b)
	wantReport(t, "P20.2: not yet", mustEnd(t, e.Begin, e.End, b), api.Report{Height: 12})
	e.Begin()
	b.begin()
	item := tx(16, 0, 1, delegate, 16, 500)
	wantReply(t, "P20.3: Deliver", e.Deliver(item), b.deliver(item))
	last := e.End()
	wantReport(t, "P20.2: End", last, api.Report{Height: 13, Matured: []api.Entry{{Id: 1, Kind: api.KeyUnbonding}}, Went: []uint64{19}, Came: []uint64{16}})
	b.finish()
	wantBook(t, "P20.2: behind End", e.Store(), b)
	if last.Ops != 0 {
		t.Errorf("P20.2: End tells %d operations", last.Ops)
	}
}

// mustEnd does an empty block by its parts, and tells what End reports.
func mustEnd(t *testing.T, begin, end func() api.Report, b *book) api.Report {
	t.Helper()
	wantReport(t, "P20.2: Begin", begin(), b.begin())
	got := end()
	wantReport(t, "P20.2: End", got, b.finish())
	return got
}

// P20.2: what matures counts ahead of who is elected, both behind all items: who is cut within a block goes at its end.
func TestOrderWithinABlock(t *testing.T) {
	b := alone()
	b.create(19, 0, 80)
	b.create(20, 0, 70)
	b.elect()
	e := engine(t, b)
	r := doBlock(t, e, b, tx(17, 0, 9, send, 16, 1), fault(down, 16, 5), tx(21, 0, 1, delegate, 20, 50))
	if !slices.Equal(r.Went, []uint64{16}) || !slices.Equal(r.Came, []uint64{20}) || r.Replies[1].N != 15 {
		t.Errorf("P20.2: %+v", r)
	}
	r = doBlock(t, e, b)
	if len(r.Gave) != 2 || r.Gave[0].Val != 19 || r.Gave[1].Val != 20 {
		t.Errorf("P20.2: who is bonded when a block begins is given: %v", r.Gave)
	}
}

// P20.4: a block's report is Begin's Height, Gave and Ops, a reply to each item in their order, and End's Matured, Went and Came.
func TestBlockIsItsParts(t *testing.T) {
	b := alone()
	b.undelegate(16, 17, 20)
	b.create(19, 0, 200)
	b.chain[0].Height = 12
	b.params[0].Max = 1
	b.elect()
	b.move(20, collector, 100)
	items := [][]byte{tx(16, 0, 1, delegate, 16, 500), {}, tx(17, 0, 3, send, 18, 5000), nil, fault(down, 16, 12), fault(down, 19, 12), tx(18, 1, 1, send, 16, 1)}
	whole, parts := engine(t, b), engine(t, b)
	got, err := whole.Block(items)
	wantErr(t, "P20.4: Block", err, api.OK)
	first := parts.Begin()
	var replies []api.Reply
	for _, item := range items {
		replies = append(replies, parts.Deliver(item))
	}
	last := parts.End()
	wantReport(t, "P20.4: Block", got, api.Report{
		Height: first.Height, Gave: first.Gave, Replies: replies, Matured: last.Matured, Went: last.Went, Came: last.Came,
	})
	if len(got.Gave) == 0 || len(got.Matured) == 0 || len(got.Went) == 0 {
		t.Fatalf("P20.4: too little happens: %+v", got)
	}
	if got.Ops != first.Ops || whole.Ops() != parts.Ops() {
		t.Errorf("P20.4: %d operations, not %d; %d in all, not %d", got.Ops, first.Ops, whole.Ops(), parts.Ops())
	}
	for i, reply := range got.Replies {
		if reply.Ops != replies[i].Ops {
			t.Errorf("P20.4: item %d: %d operations, not %d", i, reply.Ops, replies[i].Ops)
		}
	}
	wantReport(t, "P20.4: Block", got, b.block(items))
	wantBook(t, "P20.4: behind Block", whole.Store(), b)
	wantBook(t, "P20.4: behind its parts", parts.Store(), b)
}

// P20.4: 256 items are done; of one more the block is refused, and nothing has changed.
func TestTooManyItems(t *testing.T) {
	b := alone()
	e := engine(t, b)
	for _, n := range []int{257, 300, 1000} {
		items := make([][]byte, n)
		items[0] = tx(16, 0, 1, send, 17, 1)
		r, err := e.Block(items)
		wantErr(t, "P20.4: too many items", err, api.ErrAppItems)
		wantReport(t, "P20.4: too many items", r, api.Report{})
		wantBook(t, "P20.4: too many items", e.Store(), b)
		if r.Ops != 0 || e.Ops() != 0 {
			t.Errorf("P20.4: %d operations", e.Ops())
		}
	}
	var items [][]byte
	for i := range uint64(256) {
		items = append(items, tx(16, i, 1, send, 17, 1))
	}
	r := doBlock(t, e, b, items...)
	if len(r.Replies) != 256 || r.Replies[255].Err != api.OK || b.seq(16) != 256 {
		t.Errorf("P20.4: %d replies, sequence %d", len(r.Replies), b.seq(16))
	}
	doBlock(t, e, b, make([][]byte, 256)...)
}

// P20.4, DOC.md, what holds everywhere, 2: a block of no items, be the list nil or empty.
func TestEmptyBlocks(t *testing.T) {
	b := alone()
	e := engine(t, b)
	for i, items := range [][][]byte{nil, {}, nil} {
		r, err := e.Block(items)
		wantErr(t, "P20.4: an empty block", err, api.OK)
		wantReport(t, "P20.4: an empty block", r, b.block(nil))
		if r.Height != uint64(5+i) || len(r.Replies) != 0 {
			t.Errorf("P20.4: an empty block: %+v", r)
		}
	}
	wantBook(t, "P20.4: behind empty blocks", e.Store(), b)
}
