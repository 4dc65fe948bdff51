package stake_test

import (
	"math/rand"
	"slices"
	"sync"
	"testing"

	"glean/api"
	"glean/dec"
	"glean/kv"
	"glean/stake"
)

// P15.2 to P15.9: what is done within a journal is taken back with it, and nothing else.
func TestWithinAJournal(t *testing.T) {
	r := rand.New(rand.NewSource(181))
	for range 10 {
		s, b := drawnRun(r)
		for range 40 {
			s.Begin()
			within := b.copied()
			for range 8 {
				step(t, r, s, within)
			}
			if r.Intn(3) > 0 {
				s.Commit()
				b = within
			} else {
				s.Rollback()
			}
			if s.Depth() != 0 {
				t.Fatal("a journal is left under way")
			}
			wantBook(t, "behind a journal", s, b)
		}
	}
}

// P15.3 to P15.8: with as many journals under way as a store takes, all is done or nothing, and the journals stay the caller's.
func TestAtEachDepth(t *testing.T) {
	r := rand.New(rand.NewSource(182))
	for depth := range api.MaxDepth + 1 {
		s, b := drawnRun(r)
		for range 60 {
			step(t, r, s, b)
		}
		was := b.copied()
		for range depth {
			s.Begin()
		}
		for range 60 {
			step(t, r, s, b)
			if s.Depth() != depth {
				t.Fatalf("%d journals are under way, not %d", s.Depth(), depth)
			}
		}
		for i := range depth {
			s.Rollback()
			if i == depth-1 {
				wantBook(t, "all journals were taken back", s, was)
			}
		}
	}
}

// P15.8: what Take changed ahead of an error is taken back, at each depth.
func TestTakenBackAtEachDepth(t *testing.T) {
	for depth := range api.MaxDepth + 1 {
		s, b := begun()
		doCreate(t, s, b, 16, 100, 10)
		doElect(t, s, b)
		doFees(t, s, b, 25)
		doCreate(t, s, b, 17, 0, 5)
		doFault(s, b, 17, 10000, false)
		for range depth {
			s.Begin()
		}
		for _, n := range []uint64{1, 0} {
			_, _, e := stake.Redelegate(s, 16, 17, 16, n)
			wantErr(t, "P15.8: to who has no tokens", e, api.ErrShareDead)
			wantBook(t, "P15.8: what was taken is taken back", s, b)
		}
		_, e := stake.Create(s, 18, 0, 21)
		wantErr(t, "P15.3: too few coins", e, api.ErrBankShort)
		wantBook(t, "P15.3: what was begun is taken back", s, b)
		if s.Depth() != depth {
			t.Fatalf("%d journals are under way, not %d", s.Depth(), depth)
		}
	}
}

// A call that answers an error has changed nothing, also where a house hasn't the coins that its validators tell of, as none of an honest store does.
func TestTakenBackWithoutCoins(t *testing.T) {
	for _, elected := range []bool{false, true} {
		s, b := begun()
		doCreate(t, s, b, 16, 100, 10)
		doCreate(t, s, b, 17, 0, 10)
		if elected {
			doElect(t, s, b)
		}
		b.purses[loose], b.purses[bonded] = api.Account{}, api.Account{Coins: 2}
		b.lay(s)
		_, _, e := stake.Undelegate(s, 16, 16, 3)
		wantErr(t, "P15.7: without coins", e, api.ErrBankShort)
		wantBook(t, "P15.7: without coins", s, b)
		_, _, e = stake.Redelegate(s, 16, 17, 16, 3)
		wantErr(t, "P15.8: without coins", e, api.ErrBankShort)
		wantBook(t, "P15.8: without coins", s, b)
	}
}

// P15.2 to P15.9: two stores don't touch one another, and one may be asked by several at once.
func TestStoresApart(t *testing.T) {
	r := rand.New(rand.NewSource(183))
	first, b := begun()
	doCreate(t, first, b, 16, 0, 10)
	second, now := first.Copy(), b.copied()
	for range 200 {
		step(t, r, second, now)
	}
	wantBook(t, "beside another store", first, b)
	wantBook(t, "a copy", second, now)
	var all sync.WaitGroup
	failed := make([]bool, 8)
	for i := range failed {
		all.Go(func() {
			failed[i] = stake.Params(first) != b.params[0] || stake.Chain(first) != b.chain[0]
		})
	}
	all.Wait()
	if slices.Contains(failed, true) {
		t.Errorf("P15.1: asked by several at once: %v", failed)
	}
}

// P15.2 to P15.9: many stores, each by a goroutine of its own.
func TestStoresAtOnce(t *testing.T) {
	var all sync.WaitGroup
	dumps := make([][]api.Pair, 6)
	for i := range dumps {
		all.Go(func() {
			s, _ := begun()
			stake.Create(s, 16, 0, 10)
			stake.Elect(s)
			stake.Create(s, 17, 0, 10)
			for n := range uint64(20) {
				stake.Delegate(s, 16, 18, n%3)
				stake.Redelegate(s, 16, 17, 18, n%2)
				stake.SetChain(s, api.Chain{Height: n, Next: stake.Chain(s).Next})
				stake.Mature(s)
			}
			dumps[i] = s.Dump()
		})
	}
	all.Wait()
	for _, d := range dumps {
		if !slices.EqualFunc(d, dumps[0], samePair) {
			t.Fatal("two stores of which the same was asked are unlike")
		}
	}
}

// DOC.md, what holds everywhere, 1: all calls take all arguments, whatever lies in a store.
func TestWhateverLies(t *testing.T) {
	r := rand.New(rand.NewSource(184))
	draw := func() uint64 { return numbers()[r.Intn(len(numbers()))] }
	for range 300 {
		_, b := begun()
		for range 4 {
			id := drawnUser(r)
			b.vals[id] = api.Validator{
				Rate: draw(), Tokens: draw(), Shares: dec.Of(draw()), Jailed: r.Intn(2) == 0, Bonded: r.Intn(2) == 0, Period: draw(),
				Current: dec.Of(draw()), Outstanding: dec.Of(draw()), Commission: dec.Of(draw()),
			}
			b.dels[pair{drawnUser(r), draw()}] = api.Delegation{Shares: dec.Of(draw()), Period: draw(), Stake: dec.Of(draw())}
			b.dels[pair{id, drawnUser(r)}] = api.Delegation{Shares: dec.Of(draw())}
			b.unbondings[draw()] = api.Unbonding{Del: draw(), Val: draw(), Due: draw(), Balance: draw()}
		}
		s := b.store()
		s.Set([]byte{0x70}, [][]byte{nil, {1}, make([]byte, 80)}[r.Intn(3)])
		s.Set(keyOf(255, 0x30), []byte{1, 2, 3})
		for range 10 {
			ends(s, draw, drawnUser(r), drawnUser(r))
		}
		if s.Depth() != 0 {
			t.Fatal("a journal is left under way")
		}
	}
}

// ends does each call once.
func ends(s *kv.Store, draw func() uint64, val, del uint64) {
	stake.Create(s, draw(), draw(), draw())
	stake.Delegate(s, val, del, draw())
	stake.Delegate(s, draw(), draw(), draw())
	stake.Undelegate(s, val, del, draw())
	stake.Undelegate(s, draw(), draw(), draw())
	stake.Redelegate(s, val, draw(), del, draw())
	stake.Redelegate(s, draw(), val, draw(), draw())
	stake.Take(s, val, del, dec.Of(draw()))
	stake.Take(s, draw(), draw(), dec.Of(draw()))
	stake.SetChain(s, api.Chain{Height: draw(), Next: draw()})
	stake.Mature(s)
	stake.Elect(s)
}
