package slash_test

import (
	"math/rand"
	"slices"
	"sync"
	"testing"

	"glean/api"
	"glean/dec"
	"glean/kv"
	"glean/slash"
)

// P16.1, P16.2: what is done within a journal is taken back with it, and nothing else.
func TestWithinAJournal(t *testing.T) {
	r := rand.New(rand.NewSource(211))
	for range 10 {
		s, b := drawnRun(r)
		for range 40 {
			s.Begin()
			within := b.copied()
			for range 8 {
				step(t, r, s, within)
			}
			if r.Intn(3) > 0 {
				s.Commit()
				b = within
			} else {
				s.Rollback()
			}
			if s.Depth() != 0 {
				t.Fatal("a journal is left under way")
			}
			wantBook(t, "behind a journal", s, b)
		}
	}
}

// P16.1, P16.2: with as many journals under way as a store takes, all is done, and the journals stay the caller's.
func TestAtEachDepth(t *testing.T) {
	r := rand.New(rand.NewSource(212))
	for depth := range api.MaxDepth + 1 {
		s, b := moved(t)
		was := b.copied()
		for range depth {
			s.Begin()
		}
		doFault(t, s, b, down, 16, 4)
		doUnjail(t, s, b, 16)
		doFault(t, s, b, double, 16, 4)
		for range 60 {
			step(t, r, s, b)
			if s.Depth() != depth {
				t.Fatalf("%d journals are under way, not %d", s.Depth(), depth)
			}
		}
		for i := range depth {
			s.Rollback()
			if i == depth-1 {
				wantBook(t, "all journals were taken back", s, was)
			}
		}
	}
}

// P16.1, P16.2: two stores don't touch one another, and one may be asked by several at once.
func TestStoresApart(t *testing.T) {
	r := rand.New(rand.NewSource(213))
	first, b := moved(t)
	doFault(t, first, b, double, 17, 6)
	second, now := first.Copy(), b.copied()
	for range 200 {
		step(t, r, second, now)
	}
	wantBook(t, "beside another store", first, b)
	wantBook(t, "a copy", second, now)
	var all sync.WaitGroup
	failed := make([]bool, 8)
	for i := range failed {
		all.Go(func() {
			height, over := slash.Tomb(first, 17)
			_, free := slash.Tomb(first, 16)
			failed[i] = height != 6 || !over || free
		})
	}
	all.Wait()
	if slices.Contains(failed, true) {
		t.Errorf("P16.1: asked by several at once: %v", failed)
	}
}

// P16.1, P16.2: many stores, each by a goroutine of its own.
func TestStoresAtOnce(t *testing.T) {
	s, _ := moved(t)
	var all sync.WaitGroup
	dumps := make([][]api.Pair, 6)
	for i := range dumps {
		own := s.Copy()
		all.Go(func() {
			for n := range uint64(20) {
				slash.Fault(own, api.FaultDown, 16+n%2, 6-n%3)
				slash.Unjail(own, 16+n%2)
			}
			slash.Fault(own, api.FaultDouble, 16, 5)
			dumps[i] = own.Dump()
		})
	}
	all.Wait()
	for _, d := range dumps {
		if !slices.EqualFunc(d, dumps[0], samePair) {
			t.Fatal("two stores of which the same was asked are unlike")
		}
	}
}

// DOC.md, what holds everywhere, 1: all calls take all arguments, whatever lies in a store.
func TestWhateverLies(t *testing.T) {
	r := rand.New(rand.NewSource(214))
	draw := func() uint64 { return numbers()[r.Intn(len(numbers()))] }
	for range 400 {
		_, b := begun()
		b.params = []api.Params{{Double: draw(), Down: draw(), Jail: draw(), Age: []uint64{top, draw()}[r.Intn(2)]}}
		for range 4 {
			id := drawnUser(r)
			b.vals[id] = api.Validator{
				Rate: draw(), Tokens: draw(), Shares: dec.Of(draw()), Jailed: r.Intn(2) == 0, Until: draw(), Bonded: r.Intn(2) == 0, Period: draw(),
				Current: dec.Of(draw()), Outstanding: dec.Of(draw()), Commission: dec.Of(draw()),
			}
			b.dels[pair{drawnUser(r), draw()}] = api.Delegation{Shares: dec.Of(draw()), Period: draw(), Stake: dec.Of(draw())}
			b.dels[pair{id, drawnUser(r)}] = api.Delegation{Shares: dec.Of(draw())}
			b.unbondings[draw()] = api.Unbonding{Del: draw(), Val: drawnUser(r), Due: draw(), Height: draw(), Initial: draw(), Balance: draw()}
			b.moves[draw()] = api.Move{Del: drawnUser(r), Src: drawnUser(r), Dst: id, Due: draw(), Height: draw(), Initial: draw(), Shares: dec.Of(draw())}
		}
		s := b.store()
		s.Set(keyOf(255, 0x30), [][]byte{nil, {1, 2, 3}}[r.Intn(2)])
		s.Set(spelt([]byte{0x65}, 16, 5), [][]byte{nil, spelt(nil, draw()), {1}}[r.Intn(3)])
		s.Set(spelt([]byte{0x74}, 17), [][]byte{nil, {1}, make([]byte, 9)}[r.Intn(3)])
		for range 10 {
			ends(s, draw, drawnUser(r))
		}
		if s.Depth() != 0 {
			t.Fatal("a journal is left under way")
		}
	}
}

// ends does each call.
func ends(s *kv.Store, draw func() uint64, val uint64) {
	for _, kind := range []int{double, down, int(draw())} {
		slash.Fault(s, kind, val, draw()%4)
		slash.Unjail(s, val)
		slash.Fault(s, kind, draw(), draw())
	}
	slash.Unjail(s, draw())
	slash.Tomb(s, val)
	slash.Tomb(s, draw())
}
