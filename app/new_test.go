package app_test

import (
	"math/big"
	"slices"
	"testing"

	"glean/api"
	"glean/app"
	"glean/bank"
	"glean/dec"
	"glean/kv"
	"glean/sound"
)

// P20.1: the numbers are the chapter's.
func TestNumbers(t *testing.T) {
	if api.ErrAppStore != 200 || api.ErrAppItems != 201 || api.ErrAppTo != 202 || api.ErrAppKeeper != 203 {
		t.Error("the chapter's errors are others")
	}
	if api.MaxItems != 256 || api.MaxCount != 1<<62 || api.MsgSpend != spend || api.FaultDown != down {
		t.Error("the chapter's numbers are others")
	}
}

// wantNew fails unless New takes a store, or refuses it, as is wanted, and changes nothing of it.
func wantNew(t *testing.T, what string, s *kv.Store, taken bool) {
	t.Helper()
	was, ops := s.Dump(), s.Ops()
	e, err := app.New(s)
	switch {
	case taken && (err != api.OK || e == nil):
		t.Errorf("P20.1: %s: %v, rule %d", what, err, sound.Check(s))
	case !taken && (err != api.ErrAppStore || e != nil):
		t.Errorf("P20.1: %s: %v", what, err)
	}
	if s.Ops() != ops || !slices.EqualFunc(s.Dump(), was, samePair) {
		t.Errorf("P20.1: %s: New has changed the store", what)
	}
	if taken && err == api.OK && !slices.EqualFunc(e.Store().Dump(), was, samePair) {
		t.Errorf("P20.1: %s: the engine's store is another one", what)
	}
}

// P20.1: a store in which a rule is broken is refused, whichever rule it is.
func TestNewOfWhatIsNotSound(t *testing.T) {
	wantNew(t, "an empty store", kv.New(), false)
	wantNew(t, "a sound store", alone().store(), true)
	wantNew(t, "a sound store without validators", fit().store(), true)
	for rule, how := range []func(*book, *kv.Store){
		1: func(_ *book, s *kv.Store) { s.Set([]byte{9}, nil) },
		2: func(b *book, s *kv.Store) { b.params[0].Max = 65; b.lay(s) },
		3: func(b *book, s *kv.Store) { b.purses[7] = api.Account{Coins: 1}; b.lay(s) },
		4: func(b *book, s *kv.Store) { v := b.vals[16]; v.Rate = 10001; b.vals[16] = v; b.lay(s) },
		5: func(_ *book, s *kv.Store) { s.Set(spelt([]byte{0x6E}, 23, 16), nil) },
		6: func(_ *book, s *kv.Store) { s.Set(spelt([]byte{0x62}, 23), nil) },
		7: func(b *book, s *kv.Store) { b.refer(16, b.vals[16].Period-1, 1); b.lay(s) },
		8: func(b *book, s *kv.Store) { b.fault(down, 16, 4); b.elect(); spoilCut(b); b.lay(s) },
		9: func(b *book, s *kv.Store) {
			d := b.dels[pair{16, 17}]
			d.Stake = dec.Of(51)
			b.dels[pair{16, 17}] = d
			b.lay(s)
		},
		10: func(_ *book, s *kv.Store) { bank.Mint(s, api.Shared, 1) },
		11: func(_ *book, s *kv.Store) { s.Set(spelt([]byte{0x6B}, 17, 16), spelt(nil, 1)) },
	} {
		if how != nil {
			b := alone()
			s := b.store()
			how(b, s)
			if got := sound.Check(s); got != rule {
				t.Errorf("P20.1: a store that breaks rule %d, not %d", got, rule)
			}
			wantNew(t, "a store that isn't sound", s, false)
		}
	}
}

// spoilCut has each cut leave more than there was.
func spoilCut(b *book) {
	for p := range b.cuts {
		b.cuts[p] = api.Cut{Before: 10, After: 10}
	}
}

// aged tells a book in which validators have that period and that ratio, all others a small one.
func aged(period uint64, ratio *big.Int, who ...uint64) *book {
	b := fit()
	for i, id := range []uint64{16, 17, 300, top} {
		b.mint(id, 1000)
		b.create(id, 0, 10+uint64(i))
	}
	for _, id := range who {
		v, d := b.vals[id], b.dels[pair{id, id}]
		delete(b.pasts, place{id, v.Period - 1})
		v.Period, d.Period = period, period-1
		b.vals[id], b.dels[pair{id, id}] = v, d
		b.pasts[place{id, period - 1}] = past{ratio, 2}
	}
	b.elect()
	return b
}

// P20.1: the chain's Height, its Next and each validator's Period are at most MaxCount, each Ratio at most 10^50; one more is sound, but refused.
func TestNewAtTheLimits(t *testing.T) {
	const count = 1 << 62
	ratio := new(big.Int).Exp(big.NewInt(10), big.NewInt(86), nil)
	more := sum(ratio, big.NewInt(1))
	for _, x := range []struct {
		what         string
		height, next uint64
		period       uint64
		ratio        *big.Int
		taken        bool
	}{
		{"all at the limit", count, count, count, ratio, true}, {"little", 0, 1, 2, new(big.Int), true},
		{"the height", count + 1, count, count, ratio, false}, {"the greatest height", 2 * count, 1, 2, ratio, false},
		{"the next number", count, count + 1, count, ratio, false}, {"the greatest next number", 0, 2 * count, 2, ratio, false},
		{"a period", count, count, count + 1, ratio, false}, {"the greatest period", 0, 1, 2 * count, ratio, false},
		{"a ratio", count, count, count, more, false}, {"a ratio of many digits", 0, 1, 2, new(big.Int).Mul(ratio, big.NewInt(256)), false},
		{"the greatest ratio", 0, 1, 2, new(big.Int).Exp(big.NewInt(10), big.NewInt(96), nil), false},
		{"a ratio one below", 0, 1, 2, fall(ratio, big.NewInt(1)), true},
	} {
		for _, who := range [][]uint64{{16}, {17}, {300}, {top}, {16, 17, 300, top}} {
			b := aged(x.period, x.ratio, who...)
			b.chain = []api.Chain{{Height: x.height, Next: x.next}}
			s := b.store()
			wantSound(t, s)
			wantNew(t, x.what, s, x.taken)
			if x.taken {
				doBlock(t, engine(t, b), b, tx(16, 0, 1, withdraw, 16), tx(17, 0, 1, undelegate, 300, 0))
			}
		}
	}
}

// P20.1: a ratio counts in each history, not in the last one alone: an older one is as great at most, but the limit is one for all.
func TestNewWithOlderHistories(t *testing.T) {
	ratio := new(big.Int).Exp(big.NewInt(10), big.NewInt(86), nil)
	for _, x := range []struct {
		older, last *big.Int
		taken       bool
	}{
		{ratio, ratio, true}, {new(big.Int), ratio, true}, {ratio, sum(ratio, big.NewInt(1)), false}, {sum(ratio, big.NewInt(1)), sum(ratio, big.NewInt(1)), false},
	} {
		b := aged(9, x.last, 17)
		d := b.dels[pair{17, 17}]
		d.Period, d.Stake = 5, api.Dec{}
		b.dels[pair{17, 17}] = d
		b.pasts[place{17, 8}] = past{x.last, 1}
		b.pasts[place{17, 5}] = past{x.older, 1}
		wantSound(t, b.store())
		wantNew(t, "two histories", b.store(), x.taken)
	}
}

// P20.1: nothing else has such a limit: sequences, heights of tombs, shares of moves.
func TestNewOfOtherNumbers(t *testing.T) {
	b := alone()
	b.create(19, 0, 5)
	b.redelegate(16, 19, 17, 3)
	b.fault(double, 19, 4)
	b.elect()
	b.purses[16] = api.Account{Coins: b.purses[16].Coins, Seq: top}
	b.purses[collector] = api.Account{Seq: top}
	b.tombs[19] = top
	b.tombs[99] = top
	m := b.moves[1]
	m.Shares, m.Height = decOf(new(big.Int).Exp(big.NewInt(10), big.NewInt(110), nil)), 0
	b.moves[1] = m
	wantSound(t, b.store())
	wantNew(t, "other numbers", b.store(), true)
	e := engine(t, b)
	doBlock(t, e, b, tx(16, top, 1, send, 17, 3), tx(16, 0, 1, send, 17, 3), fault(down, 16, 4))
}

// P20.1: the engine's store is its own: neither what is done with the first one, nor with what Store told, shows in it.
func TestStoreIsItsOwn(t *testing.T) {
	b := alone()
	s := b.store()
	s.Begin()
	e, err := app.New(s)
	wantErr(t, "P20.1: New", err, api.OK)
	if s.Depth() != 1 || e.Store().Depth() != 0 {
		t.Errorf("P20.1: %d journals, %d of the engine's", s.Depth(), e.Store().Depth())
	}
	s.Rollback()
	bank.Mint(s, 16, 5)
	told := e.Store()
	for _, p := range told.Dump() {
		told.Delete(p.Key)
	}
	wantBook(t, "P20.1: the engine's store", e.Store(), b)
	other := e.Store()
	doBlock(t, e, b, tx(17, 0, 1, send, 16, 7))
	if slices.EqualFunc(other.Dump(), b.laid(), samePair) || stakeHeight(other) != 4 {
		t.Error("P20.1: what Store told has changed since")
	}
}

// stakeHeight tells a chain's height by its bytes.
func stakeHeight(s *kv.Store) uint64 {
	b, _ := s.Get([]byte{0x63})
	all, _ := numbersOf(b, 2)
	return all[0]
}

// P20.1: what lies in a journal of the store that is handed in is there, as it lies there.
func TestNewWithinAJournal(t *testing.T) {
	b := alone()
	s := b.store()
	s.Begin()
	bank.Move(s, 16, 17, 5)
	b.move(16, 17, 5)
	e, _ := app.New(s)
	s.Rollback()
	wantBook(t, "P20.1: within a journal", e.Store(), b)
	doBlock(t, e, b)
}

// P20.1: Ops are those of the engine's store, from 0 on; to ask for the store, or for Ops, takes none.
func TestOps(t *testing.T) {
	b := alone()
	s := b.store()
	if s.Ops() == 0 {
		t.Fatal("a store that nothing was done with")
	}
	e, _ := app.New(s)
	if e.Ops() != 0 {
		t.Errorf("P20.1: %d operations at first", e.Ops())
	}
	report := e.Begin()
	if report.Ops < 2 || e.Ops() != report.Ops {
		t.Errorf("P20.2: %d operations, not %d", report.Ops, e.Ops())
	}
	for _, item := range [][]byte{tx(17, 0, 1, send, 16, 7), tx(17, 1, 1, send, 16, 7000), tx(17, 0, 1, send, 16, 7), fault(down, 16, 9), fault(down, 16, 3)} {
		was := e.Ops()
		if reply := e.Deliver(item); reply.Ops < 1 || e.Ops() != was+reply.Ops {
			t.Errorf("P20.3: %+v: %d operations, %d with the engine", reply, reply.Ops, e.Ops()-was)
		}
	}
	was := e.Ops()
	if reply := e.Deliver([]byte{1}); reply.Ops != e.Ops()-was {
		t.Errorf("P20.3: of no item: %d operations", reply.Ops)
	}
	was = e.Ops()
	if end := e.End(); end.Ops != 0 || e.Ops() == was {
		t.Errorf("P20.2: End tells %d operations, and took %d", end.Ops, e.Ops()-was)
	}
	was = e.Ops()
	e.Store()
	e.Block(make([][]byte, 257))
	if e.Ops() != was || e.Store().Ops() != 0 {
		t.Errorf("P20.1: %d operations, not %d; %d of a copy", e.Ops(), was, e.Store().Ops())
	}
}
