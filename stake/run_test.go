package stake_test

import (
	"math/big"
	"math/rand"
	"slices"
	"testing"

	"glean/api"
	"glean/bank"
	"glean/dist"
	"glean/kv"
	"glean/stake"
)

// begun tells a book at height 3, with a few coins, in which two may be bonded, and the store of it.
func begun() (*kv.Store, *book) {
	b := newBook()
	b.params = []api.Params{{Max: 2, Unbond: 5, Entries: 2}}
	b.chain = []api.Chain{{Height: 3}}
	for id, n := range map[uint64]uint64{16: 100, 17: 50, 18: 20, 19: 10, top: 30} {
		b.mint(id, n)
	}
	return b.store(), b
}

// doCreate creates with the store and the book.
func doCreate(t *testing.T, s *kv.Store, b *book, op, rate, n uint64) {
	t.Helper()
	got, e := stake.Create(s, op, rate, n)
	want, f := b.create(op, rate, n)
	wantErr(t, "P15.3: Create", e, f)
	wantDec(t, "P15.3: Create", got, want)
	wantBook(t, "P15.2, P15.3: behind Create", s, b)
}

// doDelegate delegates.
func doDelegate(t *testing.T, s *kv.Store, b *book, val, del, n uint64) {
	t.Helper()
	got, paid, e := stake.Delegate(s, val, del, n)
	want, wanted, f := b.delegate(val, del, n)
	wantErr(t, "P15.4: Delegate", e, f)
	wantDec(t, "P15.4: Delegate", got, want)
	wantPaid(t, "P15.2, P15.4: Delegate", paid, wanted)
	wantBook(t, "P15.2, P15.4: behind Delegate", s, b)
}

// doTake takes, and has the coins go to the delegator, so that the store stays honest.
func doTake(t *testing.T, s *kv.Store, b *book, val, del uint64, x *big.Int) {
	t.Helper()
	from := house(b.vals[val])
	r, paid, e := stake.Take(s, val, del, decOf(x))
	want, wanted, f := b.take(val, del, x)
	wantErr(t, "P15.5: Take", e, f)
	wantCoins(t, "P15.5: Take", r, want)
	wantPaid(t, "P15.5: Take", paid, wanted)
	wantBook(t, "P15.5: behind Take", s, b)
	wantErr(t, "P15.5: what was taken lies in the house", bank.Move(s, from, del, r), b.move(from, del, r))
}

// doUndelegate undelegates.
func doUndelegate(t *testing.T, s *kv.Store, b *book, val, del, n uint64) {
	t.Helper()
	r, paid, e := stake.Undelegate(s, val, del, n)
	want, wanted, f := b.undelegate(val, del, n)
	wantErr(t, "P15.6, P15.7: Undelegate", e, f)
	wantCoins(t, "P15.7: Undelegate", r, want)
	wantPaid(t, "P15.7: Undelegate", paid, wanted)
	wantBook(t, "P15.7: behind Undelegate", s, b)
}

// doRedelegate redelegates.
func doRedelegate(t *testing.T, s *kv.Store, b *book, src, dst, del, n uint64) {
	t.Helper()
	r, paid, e := stake.Redelegate(s, src, dst, del, n)
	want, wanted, f := b.redelegate(src, dst, del, n)
	wantErr(t, "P15.6, P15.8: Redelegate", e, f)
	wantCoins(t, "P15.8: Redelegate", r, want)
	if !slices.EqualFunc(paid, wanted, samePaid) {
		t.Fatalf("P15.8: Redelegate: %v, not %v", paid, wanted)
	}
	wantBook(t, "P15.8: behind Redelegate", s, b)
}

// doMature matures.
func doMature(t *testing.T, s *kv.Store, b *book) {
	t.Helper()
	if got, want := stake.Mature(s), b.mature(); !slices.Equal(got, want) {
		t.Fatalf("P15.9: Mature: %v, not %v", got, want)
	}
	wantBook(t, "P15.9: behind Mature", s, b)
}

// doElect elects.
func doElect(t *testing.T, s *kv.Store, b *book) {
	t.Helper()
	went, came := stake.Elect(s)
	goes, comes := b.elect()
	if !slices.Equal(went, goes) || !slices.Equal(came, comes) {
		t.Fatalf("P15.9: Elect: %v, %v, not %v, %v", went, came, goes, comes)
	}
	wantBook(t, "P15.9: behind Elect", s, b)
}

// doFees shares out fees.
func doFees(t *testing.T, s *kv.Store, b *book, n uint64) {
	t.Helper()
	bank.Mint(s, api.Collector, n)
	b.mint(collector, n)
	dist.Allocate(s)
	b.allocate()
	wantBook(t, "P14.3: behind Allocate", s, b)
}

// doFault cuts and jails a validator, and clips what has left it.
func doFault(s *kv.Store, b *book, id, parts uint64, tomb bool) {
	b.fault(id, parts, tomb)
	b.lay(s)
}

// doHeight has the chain stand at that height.
func doHeight(s *kv.Store, b *book, height uint64) {
	c := b.stand()
	c.Height = height
	stake.SetChain(s, c)
	b.chain = []api.Chain{c}
}

// users: who takes part in drawn runs.
func users() []uint64 { return []uint64{16, 17, 18, 19, 255, top} }

func drawnUser(r *rand.Rand) uint64 { return users()[r.Intn(len(users()))] }

// drawnPair draws a validator and a delegator: often of a delegation that there is.
func drawnPair(r *rand.Rand, b *book) (val, del uint64) {
	var all []pair
	for _, val := range users() {
		for _, del := range users() {
			if _, there := b.dels[pair{val, del}]; there {
				all = append(all, pair{val, del})
			}
		}
	}
	if len(all) == 0 || r.Intn(4) == 0 {
		return drawnUser(r), drawnUser(r)
	}
	p := all[r.Intn(len(all))]
	return p.val, p.del
}

// drawnCoins draws how many coins are wished for: few ones often, all that there are by 0.
func drawnCoins(r *rand.Rand) uint64 {
	switch r.Intn(5) {
	case 0:
		return 0
	case 1:
		return uint64(r.Intn(4))
	case 2:
		return r.Uint64() >> r.Intn(64)
	}
	return uint64(r.Int63n(1 << (1 + r.Intn(20))))
}

// drawnRun begins a run: whatever params, coins of few or of very many, and Max at its edges, too.
func drawnRun(r *rand.Rand) (*kv.Store, *book) {
	b := newBook()
	if r.Intn(8) > 0 {
		b.params = []api.Params{{
			Max: []uint64{0, 1, 2, 3, 64, top}[r.Intn(6)], Unbond: []uint64{0, 1, 3, 100, top}[r.Intn(5)], Entries: []uint64{1, 2, 16, top, 0}[r.Intn(5)], Keeper: 7,
		}}
	}
	if r.Intn(4) > 0 {
		b.chain = []api.Chain{{Height: uint64(r.Intn(4)) - 1, Next: uint64(r.Intn(3))}}
	}
	for _, id := range users() {
		b.mint(id, uint64(r.Int63n(1<<(1+r.Intn(56)))))
	}
	b.mint(collector, 1000)
	return b.store(), b
}

// step does one drawn thing with the store and the book.
func step(t *testing.T, r *rand.Rand, s *kv.Store, b *book) {
	t.Helper()
	val, del := drawnPair(r, b)
	other, n := drawnUser(r), drawnCoins(r)
	switch r.Intn(16) {
	case 0, 1:
		doCreate(t, s, b, other, uint64(r.Intn(6))*2001, n)
	case 2, 3:
		doDelegate(t, s, b, val, drawnUser(r), n)
	case 4:
		doDelegate(t, s, b, val, del, n)
	case 5, 6:
		doUndelegate(t, s, b, val, del, n)
	case 7, 8, 9:
		doRedelegate(t, s, b, val, other, del, n)
	case 10:
		x := value(b.dels[pair{val, del}].Shares)
		doTake(t, s, b, val, del, []*big.Int{x, new(big.Int), sum(x, big.NewInt(1)), low(x, big.NewInt(1), big.NewInt(3))}[r.Intn(4)])
	case 11:
		doHeight(s, b, b.stand().Height+1)
		doMature(t, s, b)
	case 12:
		doElect(t, s, b)
	case 13:
		bank.Move(s, val, api.Collector, n%1000)
		b.move(val, collector, n%1000)
		doFees(t, s, b, 0)
	case 14:
		b.unjail(val)
		for id := range b.unbondings {
			b.clip(id, 1)
		}
		b.lay(s)
	default:
		if _, there := b.vals[val]; there {
			doFault(s, b, val, []uint64{0, 1, 500, 3333, 9999, 10000}[r.Intn(6)], r.Intn(6) == 0)
		}
	}
}
