package slash_test

import (
	"math/rand"
	"slices"
	"testing"

	"glean/api"
	"glean/bank"
	"glean/dist"
	"glean/kv"
	"glean/slash"
	"glean/stake"
)

const (
	double = 1 // the kinds of faults, as the document numbers them
	down   = 2
)

// begun tells a book at height 3, with a few coins, in which two may be bonded, and the store of it.
func begun() (*kv.Store, *book) {
	b := newBook()
	b.params = []api.Params{{Max: 2, Unbond: 50, Entries: 4, Double: 2500, Down: 500, Jail: 7, Age: 5}}
	b.chain = []api.Chain{{Height: 3}}
	for id, n := range map[uint64]uint64{16: 1000, 17: 500, 18: 200, 19: 100, top: 300} {
		b.mint(id, n)
	}
	return b.store(), b
}

// doParams lays the params as they are when they were changed so.
func doParams(s *kv.Store, b *book, change func(*api.Params)) {
	p := b.param()
	change(&p)
	stake.SetParams(s, p)
	b.params = []api.Params{p}
}

// doHeight has the chain stand at that height.
func doHeight(s *kv.Store, b *book, height uint64) {
	c := b.stand()
	c.Height = height
	stake.SetChain(s, c)
	b.chain = []api.Chain{c}
}

// doCreate creates with the store and the book; so do the next ones what stake does.
func doCreate(t *testing.T, s *kv.Store, b *book, op, rate, n uint64) {
	t.Helper()
	_, e := stake.Create(s, op, rate, n)
	_, f := b.create(op, rate, n)
	wantErr(t, "P15.3: Create", e, f)
	wantBook(t, "P15.3: behind Create", s, b)
}

func doDelegate(t *testing.T, s *kv.Store, b *book, val, del, n uint64) {
	t.Helper()
	_, _, e := stake.Delegate(s, val, del, n)
	_, _, f := b.delegate(val, del, n)
	wantErr(t, "P15.4: Delegate", e, f)
	wantBook(t, "P15.4: behind Delegate", s, b)
}

func doUndelegate(t *testing.T, s *kv.Store, b *book, val, del, n uint64) {
	t.Helper()
	_, _, e := stake.Undelegate(s, val, del, n)
	_, _, f := b.undelegate(val, del, n)
	wantErr(t, "P15.7: Undelegate", e, f)
	wantBook(t, "P15.7: behind Undelegate", s, b)
}

func doRedelegate(t *testing.T, s *kv.Store, b *book, src, dst, del, n uint64) {
	t.Helper()
	_, _, e := stake.Redelegate(s, src, dst, del, n)
	_, _, f := b.redelegate(src, dst, del, n)
	wantErr(t, "P15.8: Redelegate", e, f)
	wantBook(t, "P15.8: behind Redelegate", s, b)
}

func doMature(t *testing.T, s *kv.Store, b *book) {
	t.Helper()
	stake.Mature(s)
	b.mature()
	wantBook(t, "P15.9: behind Mature", s, b)
}

func doElect(t *testing.T, s *kv.Store, b *book) {
	t.Helper()
	stake.Elect(s)
	b.elect()
	wantBook(t, "P15.9: behind Elect", s, b)
}

// doFees has an account pay fees, which are shared out.
func doFees(t *testing.T, s *kv.Store, b *book, from, n uint64) {
	t.Helper()
	bank.Move(s, from, api.Collector, n)
	b.move(from, collector, n)
	dist.Allocate(s)
	b.allocate()
	wantBook(t, "P14.3: behind Allocate", s, b)
}

// doFault tells of a fault, and answers what the program did.
func doFault(t *testing.T, s *kv.Store, b *book, kind int, val, height uint64) ([]api.Paid, uint64, api.Errno) {
	t.Helper()
	paid, n, e := slash.Fault(s, kind, val, height)
	wanted, m, f := b.fault(kind, val, height)
	wantErr(t, "P16.1: Fault", e, f)
	wantCoins(t, "P16.1: the coins that were cut", n, m)
	wantPaids(t, "P16.1: what was paid", paid, wanted)
	wantBook(t, "P16.1: behind Fault", s, b)
	return paid, n, e
}

// doUnjail lets a validator come back.
func doUnjail(t *testing.T, s *kv.Store, b *book, val uint64) api.Errno {
	t.Helper()
	e := slash.Unjail(s, val)
	wantErr(t, "P16.2: Unjail", e, b.unjail(val))
	wantBook(t, "P16.2: behind Unjail", s, b)
	return e
}

// wantPaids fails unless a call has answered these payments.
func wantPaids(t *testing.T, what string, got, want []api.Paid) {
	t.Helper()
	if !slices.EqualFunc(got, want, samePaid) {
		t.Fatalf("%s: %v, not %v", what, got, want)
	}
}

// users: who takes part in drawn runs.
func users() []uint64 { return []uint64{16, 17, 18, 19, 255, top} }

func drawnUser(r *rand.Rand) uint64 { return users()[r.Intn(len(users()))] }

// drawnPair draws a validator and a delegator: often of a delegation that there is.
func drawnPair(r *rand.Rand, b *book) (val, del uint64) {
	var all []pair
	for _, val := range users() {
		for _, del := range users() {
			if _, there := b.dels[pair{val, del}]; there {
				all = append(all, pair{val, del})
			}
		}
	}
	if len(all) == 0 || r.Intn(5) == 0 {
		return drawnUser(r), drawnUser(r)
	}
	p := all[r.Intn(len(all))]
	return p.val, p.del
}

// drawnCoins draws how many coins are wished for: few ones often, all that there are by 0.
func drawnCoins(r *rand.Rand) uint64 {
	switch r.Intn(5) {
	case 0:
		return 0
	case 1:
		return uint64(r.Intn(4))
	case 2:
		return r.Uint64() >> r.Intn(64)
	}
	return uint64(r.Int63n(1 << (1 + r.Intn(20))))
}

// drawnRun begins a run: whatever params, coins of few or of very many.
func drawnRun(r *rand.Rand) (*kv.Store, *book) {
	b := newBook()
	if r.Intn(8) > 0 {
		parts := []uint64{0, 1, 500, 777, 1000, 3333, 5000, 9999, 10000, top}
		b.params = []api.Params{{
			Max: []uint64{0, 1, 2, 3, 64, top}[r.Intn(6)], Unbond: []uint64{0, 3, 20, 100, 1000, top}[r.Intn(6)], Entries: []uint64{0, 1, 9, 16, 99, top}[r.Intn(6)],
			Double: parts[r.Intn(10)], Down: parts[r.Intn(10)], Jail: []uint64{0, 0, 0, 1, 5, top}[r.Intn(6)], Age: []uint64{0, 1, 3, 9, top}[r.Intn(5)], Keeper: 7,
		}}
	}
	if r.Intn(4) > 0 {
		b.chain = []api.Chain{{Height: uint64(r.Intn(4)) - 1, Next: uint64(r.Intn(3))}}
	}
	for _, id := range users() {
		b.mint(id, uint64(r.Int63n(1<<(1+r.Intn(56)))))
	}
	b.mint(collector, 1000)
	return b.store(), b
}

// step does one drawn thing with the store and the book.
func step(t *testing.T, r *rand.Rand, s *kv.Store, b *book) {
	t.Helper()
	val, del := drawnPair(r, b)
	other, n := drawnUser(r), drawnCoins(r)
	if v := b.vals[val]; r.Intn(2) == 0 && v.Tokens > 0 {
		n = uint64(r.Int63n(int64(v.Tokens)))/8 + 1
	}
	switch r.Intn(22) {
	case 0, 1, 2:
		doCreate(t, s, b, other, uint64(r.Intn(6))*2001, n)
	case 3, 4:
		doDelegate(t, s, b, val, drawnUser(r), n)
	case 5:
		doUndelegate(t, s, b, val, del, n)
	case 6, 7, 8, 9:
		to, _ := drawnPair(r, b)
		doRedelegate(t, s, b, val, to, del, n)
	case 10:
		doHeight(s, b, b.stand().Height+1)
		doMature(t, s, b)
	case 11:
		doElect(t, s, b)
	case 12:
		doFees(t, s, b, val, n%1000)
	case 13, 14, 15, 16:
		doUnjail(t, s, b, val)
	case 17:
		doFault(t, s, b, []int{0, double, 3, down}[r.Intn(4)], drawnCulprit(r, b), b.stand().Height-uint64(r.Intn(5))+1)
	default:
		doFault(t, s, b, down, drawnCulprit(r, b), b.stand().Height-uint64(r.Intn(4)))
	}
}

// drawnCulprit draws a validator: often one that something has left.
func drawnCulprit(r *rand.Rand, b *book) uint64 {
	var all []uint64
	for _, id := range users() {
		if len(b.from(id)) > 0 {
			all = append(all, id)
		}
	}
	if len(all) == 0 || r.Intn(2) == 0 {
		val, _ := drawnPair(r, b)
		return val
	}
	return all[r.Intn(len(all))]
}
