package app_test

import (
	"slices"
	"testing"

	"glean/api"
	"glean/app"
	"glean/kv"
	"glean/sound"
)

// The kinds of messages and faults, as the document numbers them.
const (
	send = iota + 1
	create
	delegate
	undelegate
	redelegate
	withdraw
	commission
	unjail
	fund
	spend
)

const (
	double = iota + 1
	down
)

// tx tells the bytes of a transaction, with the numbers that its kind uses.
func tx(sender, seq, fee uint64, kind byte, uses ...uint64) []byte {
	return spelt(append(spelt([]byte{0x54}, sender, seq, fee), kind), uses...)
}

// fault tells the bytes of a fault.
func fault(kind byte, val, height uint64) []byte {
	return spelt([]byte{0x46, kind}, val, height)
}

// fit tells a book in which nothing is bound yet: two may be bonded, 18 keeps the pool.
func fit() *book {
	b := newBook()
	b.params = []api.Params{{Max: 2, Unbond: 9, Entries: 3, Double: 500, Down: 1000, Jail: 2, Age: 50, Fee: 1, Keeper: 18}}
	b.chain = []api.Chain{{Height: 4, Next: 1}}
	for id := uint64(16); id < 24; id++ {
		b.mint(id, 1000)
	}
	return b
}

// alone tells such a book in which 16, with the rate of a tenth, is bonded with 100 coins of its own and 50 of 17.
func alone() *book {
	b := fit()
	b.create(16, 1000, 100)
	b.delegate(16, 17, 50)
	b.elect()
	return b
}

// engine tells an engine over the store of a book.
func engine(t *testing.T, b *book) *app.Engine {
	t.Helper()
	e, err := app.New(b.store())
	if err != api.OK {
		t.Fatalf("P20.1: New: %v, of a store of which sound says %d", err, sound.Check(b.store()))
	}
	return e
}

// seq tells the sequence of who sends next.
func (b *book) seq(id uint64) uint64 { return b.purses[id].Seq }

// sameReply tells whether two replies are, but for Ops.
func sameReply(x, y api.Reply) bool {
	return x.Err == y.Err && x.N == y.N && same(x.Shares, y.Shares) && slices.EqualFunc(x.Paid, y.Paid, samePaid)
}

// sameReport tells whether two reports are, but for Ops.
func sameReport(x, y api.Report) bool {
	return x.Height == y.Height && slices.EqualFunc(x.Gave, y.Gave, samePaid) && slices.EqualFunc(x.Replies, y.Replies, sameReply) &&
		slices.Equal(x.Matured, y.Matured) && slices.Equal(x.Went, y.Went) && slices.Equal(x.Came, y.Came)
}

// wantReply fails unless a call has answered that, but for Ops.
func wantReply(t *testing.T, what string, got, want api.Reply) {
	t.Helper()
	if !sameReply(got, want) {
		t.Fatalf("%s: %+v, not %+v", what, got, want)
	}
}

// wantReport fails unless a call has answered that, but for Ops.
func wantReport(t *testing.T, what string, got, want api.Report) {
	t.Helper()
	if !sameReport(got, want) {
		t.Fatalf("%s: %+v, not %+v", what, got, want)
	}
}

// wantSound fails unless a store breaks no rule.
func wantSound(t *testing.T, s *kv.Store) {
	t.Helper()
	if rule := sound.Check(s); rule != 0 {
		t.Fatalf("P20.5: rule %d is broken", rule)
	}
}

// doBlock does a block with the engine and the book, and tells what the engine reports.
func doBlock(t *testing.T, e *app.Engine, b *book, items ...[]byte) api.Report {
	t.Helper()
	got, err := e.Block(items)
	wantErr(t, "P20.4: Block", err, api.OK)
	wantReport(t, "P20.4: Block", got, b.block(items))
	wantBook(t, "P20.4: behind Block", e.Store(), b)
	wantSound(t, e.Store())
	return got
}

// doItem does a block of one item, and tells the reply.
func doItem(t *testing.T, e *app.Engine, b *book, item []byte) api.Reply {
	t.Helper()
	return doBlock(t, e, b, item).Replies[0]
}
