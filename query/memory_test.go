package query_test

import (
	"math/rand"
	"slices"
	"sync"
	"testing"

	"glean/api"
	"glean/bank"
	"glean/dist"
	"glean/keys"
	"glean/kv"
	"glean/query"
	"glean/rec"
	"glean/stake"
)

// wantUnchanged fails unless a store has these entries, journals and operations.
func wantUnchanged(t *testing.T, s *kv.Store, entries []api.Pair, depth, ops int) {
	t.Helper()
	if s.Ops() != ops || s.Depth() != depth || !slices.EqualFunc(s.Dump(), entries, samePair) {
		t.Fatalf("the store was changed: %d operations, not %d; %d journals, not %d", s.Ops(), ops, s.Depth(), depth)
	}
}

// asking asks a view for all of a state.
func asking(v *query.View, s *kv.Store) []api.Answer {
	var all []api.Answer
	for _, a := range allAsks(s) {
		all = append(all, v.One(a))
	}
	v.Many(allAsks(s)[:100], mostWorkers)
	v.Totals()
	v.Reckoned()
	return all
}

// DOC.md, what holds everywhere, 3: a store that is handed in isn't changed, nor asked.
func TestTheStoreStays(t *testing.T) {
	s := grown()
	entries, ops, like := s.Dump(), s.Ops(), s.Copy()
	for depth := range api.MaxDepth + 1 {
		v := query.New(s)
		wantUnchanged(t, s, entries, depth, ops)
		asking(v, like)
		wantUnchanged(t, s, entries, depth, ops)
		s.Begin()
	}
}

// A view is of a copy: what is done with the store behind it doesn't show.
func TestTheViewStays(t *testing.T) {
	s := grown()
	model, whole := seen(s), s.Copy()
	v := query.New(s)
	s.Begin()
	w := query.New(s)
	s.Rollback()
	bank.Mint(s, 20, 77)
	dist.Withdraw(s, 16, 20)
	stake.Undelegate(s, 16, 16, 3)
	stake.SetChain(s, api.Chain{Height: 99, Next: 99})
	for _, p := range s.Dump()[5:] {
		s.Delete(p.Key)
	}
	for _, view := range []*query.View{v, w} {
		for i, got := range asking(view, whole) {
			wantAnswer(t, "a view changed", got, model.meant(allAsks(whole)[i]))
		}
		wantTotals(t, "a view changed", view.Totals(), model.totals())
	}
}

// A view sees what lies in the store when it is made, also within journals that are taken back behind that.
func TestWithinAJournal(t *testing.T) {
	s := plain(t)
	s.Begin()
	bank.Mint(s, 17, 5)
	v := query.New(s)
	s.Rollback()
	wantAnswer(t, "within a journal", v.One(api.Ask{Kind: askAccount, A: 17}), api.Answer{N: []uint64{88, 1}})
	wantAnswer(t, "behind it", query.New(s).One(api.Ask{Kind: askAccount, A: 17}), api.Answer{N: []uint64{83, 1}})
}

// spoil writes over all lists of an answer, the room behind them included, and fails if two share memory.
func spoil(t *testing.T, lists ...[]uint64) {
	t.Helper()
	for i, list := range lists {
		list = list[:cap(list)]
		for j := range list {
			list[j] = uint64(i) + 1000
		}
	}
	for i, list := range lists {
		for _, limb := range list[:cap(list)] {
			if limb != uint64(i)+1000 {
				t.Fatal("two lists of one answer share memory")
			}
		}
	}
}

// spoilAnswers writes over all that was answered.
func spoilAnswers(t *testing.T, all []api.Answer) {
	t.Helper()
	var lists [][]uint64
	for _, a := range all {
		lists = append(lists, a.N)
		for _, d := range a.D[:cap(a.D)] {
			lists = append(lists, d.Raw)
		}
	}
	spoil(t, lists...)
	for _, a := range all {
		clear(a.D[:cap(a.D)])
		clear(a.Entries[:cap(a.Entries)])
	}
	clear(all[:cap(all)])
}

// DOC.md, what holds everywhere, 3: what is answered is new memory.
func TestAnswersAreNewMemory(t *testing.T) {
	overRuns(t, 239, 15, 15, func(r *rand.Rand, s *kv.Store) {
		v, model := query.New(s), seen(s)
		for range 2 {
			spoilAnswers(t, asking(v, s))
			asks := drawnAsks(r, s, 60)
			answers := wantMany(t, v, asks, 1+r.Intn(mostWorkers))
			for i, got := range answers {
				wantAnswer(t, "behind answers that were changed", got, model.meant(asks[i]))
			}
			spoilAnswers(t, answers)
			x := v.Totals()
			wantTotals(t, "behind totals that were changed", x, model.totals())
			spoil(t, x.Coins, x.Tokens, x.Balances, x.Pool.Raw, x.Outstanding.Raw, x.Shares.Raw)
		}
	})
}

// DOC.md, what holds everywhere, 3: questions are neither changed nor kept, the room behind them neither.
func TestQuestionsStay(t *testing.T) {
	s := grown()
	v, model := query.New(s), seen(s)
	asks := drawnAsks(rand.New(rand.NewSource(240)), s, 100)
	handed := slices.Clone(asks)
	answers := wantMany(t, v, handed[:60], 5)
	if !slices.Equal(handed, asks) {
		t.Fatal("questions were changed")
	}
	clear(handed)
	for i, got := range answers {
		wantAnswer(t, "behind questions that were changed", got, model.meant(asks[i]))
	}
}

// P23.4, P30.13: several goroutines ask a view for everything at once; two views don't touch one another.
func TestAskedAtOnce(t *testing.T) {
	s, other := grown(), plain(t)
	v, w := query.New(s), query.New(other)
	var all sync.WaitGroup
	for seed := range int64(12) {
		all.Add(1)
		go func() {
			defer all.Done()
			r := rand.New(rand.NewSource(seed))
			for range 20 {
				askBoth(t, r, v, s)
				askBoth(t, r, w, other)
			}
		}()
	}
	all.Wait()
	wantReckoned(t, v, 1)
	wantReckoned(t, w, 1)
}

// askBoth asks a view by One, Many and Totals; it may be called by several goroutines at once.
func askBoth(t *testing.T, r *rand.Rand, v *query.View, s *kv.Store) {
	model := seen(s)
	asks := drawnAsks(r, s, 40)
	answers, _ := v.Many(asks, 1+r.Intn(mostWorkers))
	for i, got := range answers {
		want := model.meant(asks[i])
		if one := v.One(asks[i]); !sameAnswer(one, want) || !sameAnswer(got, want) {
			t.Errorf("P23.4: %v: %v, %v, not %v", asks[i], got, one, want)
		}
	}
	if got := v.Totals(); !sameTotals(got, model.totals()) {
		t.Errorf("P23.3: %v", got)
	}
}

// DOC.md, what holds everywhere, 1: of states that aren't sound nothing is promised but that every call ends; it may be asked again and tells the same.
func TestSpoiltStates(t *testing.T) {
	r := rand.New(rand.NewSource(241))
	for range 300 {
		s := kv.New()
		for _, p := range spoiltPairs(r, grown().Dump()) {
			s.Set(p.Key, p.Value)
		}
		v := query.New(s)
		first, second := asking(v, grown()), asking(v, grown())
		if !slices.EqualFunc(first, second, sameAnswer) {
			t.Fatal("an answer isn't the same when it is asked for again")
		}
	}
}

// spoiltPairs tells entries of which several were changed, or left out.
func spoiltPairs(r *rand.Rand, all []api.Pair) []api.Pair {
	for range 1 + r.Intn(6) {
		i := r.Intn(len(all))
		k, v := all[i].Key, all[i].Value
		switch r.Intn(6) {
		case 0:
			all = slices.Delete(all, i, i+1)
		case 1:
			k[len(k)-1] ^= 1 << r.Intn(8)
		case 2:
			all[i].Value = v[:r.Intn(len(v)+1)]
		case 3:
			all[i] = api.Pair{Key: k[:1+r.Intn(len(k))], Value: v}
		default:
			for range len(v) / 3 {
				v[r.Intn(len(v))] ^= 1 << r.Intn(8)
			}
		}
	}
	return all
}

// DOC.md, what holds everywhere, 10: Decs that are laid are told as they are, normal; the greatest ones, too.
func TestGreatDecs(t *testing.T) {
	s := grown()
	k, _ := keys.Make(api.Key{Kind: api.KeyPool})
	great := api.Dec{Raw: make(api.Nat, 31)}
	for i := range great.Raw {
		great.Raw[i] = top
	}
	s.Set(k, rec.PutPool(api.Dec{Raw: append(slices.Clone(great.Raw), 0, 0)}))
	v := query.New(s)
	wantAnswer(t, "P23.1: a great pool", v.One(api.Ask{Kind: askPool}), api.Answer{D: []api.Dec{great}})
	if got := v.Totals().Pool; !sameDec(got, great) {
		t.Errorf("P23.3: a great pool: %v", got)
	}
}
