package query_test

import (
	"fmt"
	"math/big"
	"math/rand"
	"testing"

	"glean/api"
	"glean/bank"
	"glean/dec"
	"glean/dist"
	"glean/kv"
	"glean/nat"
	"glean/query"
	"glean/slash"
	"glean/stake"
)

// seldom: what drawn states must have shown, so that the tests over them say something.
type seldom map[string]int

// wantOften fails if one of these was seen fewer than so many times.
func (o seldom) wantOften(t *testing.T, least int, all ...string) {
	t.Helper()
	for _, what := range all {
		if o[what] < least {
			t.Errorf("the drawn states seldom have this: %s: %d", what, o[what])
		}
	}
}

// overRuns goes through the states behind each block of drawn runs.
func overRuns(t *testing.T, seed int64, runs, blocks int, look func(r *rand.Rand, s *kv.Store)) {
	t.Helper()
	r := rand.New(rand.NewSource(seed))
	for range runs {
		e := drawnEngine(t, r)
		for range blocks {
			s := e.Store()
			look(r, s)
			if _, err := e.Block(drawnItems(r, s)); err != api.OK {
				t.Fatalf("P20.4: Block: %v", err)
			}
		}
	}
}

// allAsks tells every question of which a state has something, and some more.
func allAsks(s *kv.Store) []api.Ask {
	all := []api.Ask{{Kind: askBonded}, {Kind: askPool}, {Kind: askChain}, {Kind: askChain, B: 3}, {Kind: 12}, {}}
	for id := range uint64(5) {
		all = append(all, api.Ask{Kind: askAccount, A: id})
	}
	for _, id := range users() {
		for _, kind := range []int{askAccount, askVal, askFrom, askHolds} {
			all = append(all, api.Ask{Kind: kind, A: id})
		}
		for _, other := range users() {
			all = append(all, api.Ask{Kind: askDelegation, A: id, B: other}, api.Ask{Kind: askClaim, A: id, B: other})
		}
	}
	for id := range stake.Chain(s).Next + 1 {
		all = append(all, api.Ask{Kind: askUnbonding, A: id}, api.Ask{Kind: askMove, A: id})
	}
	return all
}

// drawnAsks draws questions, most of them of what may be there.
func drawnAsks(r *rand.Rand, s *kv.Store, n int) []api.Ask {
	all := allAsks(s)
	asks := make([]api.Ask, n)
	for i := range asks {
		asks[i] = all[r.Intn(len(all))]
		if r.Intn(20) == 0 {
			asks[i] = api.Ask{Kind: r.Intn(15) - 1, A: drawnUser(r), B: drawnUser(r) * uint64(r.Intn(2))}
		}
	}
	return asks
}

// P23.1: behind each block of drawn runs each question has the answer that is read from the store's bytes.
func TestEveryQuestion(t *testing.T) {
	saw := seldom{}
	overRuns(t, 231, 40, 25, func(r *rand.Rand, s *kv.Store) {
		x, v := seen(s), query.New(s)
		for _, a := range allAsks(s) {
			got := v.One(a)
			wantAnswer(t, fmt.Sprintf("P23.1: %v", a), got, x.meant(a))
			if got.Err == api.OK {
				saw[fmt.Sprint(a.Kind)]++
			}
		}
		for _, p := range x.delegations() {
			note(saw, x, p[0], p[1])
		}
	})
	for kind := askAccount; kind <= askMove; kind++ {
		saw.wantOften(t, 100, fmt.Sprint(kind))
	}
	saw.wantOften(t, 50, "a claim", "a claim along a cut", "less than a coin", "jailed", "no tokens", "along two cuts")
}

// note notes what a delegation shows.
func note(saw seldom, x state, id, del uint64) {
	v, _ := x.val(id)
	claim, along := x.claim(v, id, del)
	for what, shown := range map[string]bool{
		"a claim":             claim.Sign() > 0,
		"a claim along a cut": claim.Sign() > 0 && along > 0,
		"along two cuts":      along > 1,
		"less than a coin":    claim.Sign() > 0 && claim.Cmp(scale) < 0,
		"jailed":              v.jailed == 1,
		"no tokens":           v.tokens == 0,
	} {
		if shown {
			saw[what]++
		}
	}
}

// P23.4: what Many tells doesn't hang on how many workers there are; it is what One tells of each, in their order.
func TestByAnyWorkers(t *testing.T) {
	overRuns(t, 232, 15, 20, func(r *rand.Rand, s *kv.Store) {
		x, v := seen(s), query.New(s)
		asks := drawnAsks(r, s, r.Intn(mostAsks+1))
		for _, workers := range []int{1, 2, 1 + r.Intn(mostWorkers), mostWorkers} {
			for i, got := range wantMany(t, v, asks, workers) {
				wantAnswer(t, fmt.Sprintf("P23.2, P23.4: %v, by %d", asks[i], workers), got, x.meant(asks[i]))
			}
		}
	})
}

// P23.4: AskClaim tells what a Withdraw on the same state pays, and leaves the view as it is.
func TestClaimsArePaid(t *testing.T) {
	paidAny := 0
	overRuns(t, 233, 40, 25, func(r *rand.Rand, s *kv.Store) {
		v := query.New(s)
		all := seen(s).delegations()
		claims := make([]api.Answer, len(all))
		for range 2 { // the second time nothing of the first one is left
			for i, p := range all {
				claims[i] = v.One(api.Ask{Kind: askClaim, A: p[0], B: p[1]})
			}
		}
		for i, p := range all {
			paid, e := dist.Withdraw(s.Copy(), p[0], p[1])
			if e != api.OK {
				t.Fatalf("P14.5: Withdraw: %v", e)
			}
			wantAnswer(t, "P23.4: what is paid", claims[i], api.Answer{N: []uint64{paid.W}, D: []api.Dec{paid.Q}})
			paidAny += int(min(paid.W, 1))
		}
		if len(all) > 0 {
			wantPaidOnTheSpot(t, s, all[r.Intn(len(all))])
		}
	})
	if paidAny < 500 {
		t.Errorf("the drawn states seldom have something to claim: %d", paidAny)
	}
}

// wantPaidOnTheSpot fails unless a Withdraw, right behind the question on the same store, has the delegator have so many coins more, and leaves nothing to claim.
func wantPaidOnTheSpot(t *testing.T, s *kv.Store, p [2]uint64) {
	t.Helper()
	s = s.Copy()
	before := bank.Get(s, p[1]).Coins
	ask := api.Ask{Kind: askClaim, A: p[0], B: p[1]}
	claim := query.New(s).One(ask)
	dist.Withdraw(s, p[0], p[1])
	if got := bank.Get(s, p[1]).Coins; got != before+claim.N[0] {
		t.Fatalf("P23.4: %d coins became %d, not %d more", before, got, claim.N[0])
	}
	wantAnswer(t, "P14.8: behind Withdraw", query.New(s).One(ask), api.Answer{N: []uint64{0}, D: []api.Dec{{}}})
}

// P23.3: totals of drawn runs are those that are read from the store's bytes.
func TestDrawnTotals(t *testing.T) {
	overRuns(t, 234, 30, 30, func(r *rand.Rand, s *kv.Store) {
		v := query.New(s)
		wantReckoned(t, v, 0)
		wantTotals(t, "P23.3: Totals", v.Totals(), seen(s).totals())
		wantReckoned(t, v, 1)
	})
}

// P23.5: Coins are the sum over all AskAccounts; Shared's coins are Pool and Outstanding. And what else the totals must be together.
func TestTotalsFit(t *testing.T) {
	overRuns(t, 235, 40, 30, func(r *rand.Rand, s *kv.Store) {
		v := query.New(s)
		x := v.Totals()
		of := func(id uint64) uint64 { return v.One(api.Ask{Kind: askAccount, A: id}).N[0] }
		sum := new(big.Int)
		for _, id := range append(users(), 1, 2, 3, 4) {
			sum.Add(sum, whole(of(id)))
		}
		if value(x.Coins).Cmp(sum) != 0 {
			t.Fatalf("P23.5: Coins %s, not %s", nat.Text(x.Coins), sum)
		}
		if got := dec.Add(x.Pool, x.Outstanding); dec.Cmp(got, dec.Of(of(4))) != 0 {
			t.Fatalf("P23.5: Pool and Outstanding %s, not %d", dec.Text(got), of(4))
		}
		if got := nat.Add(x.Tokens, x.Balances); nat.Cmp(got, nat.Add(nat.Of(of(2)), nat.Of(of(3)))) != 0 {
			t.Fatalf("P30.3: Tokens and Balances %s", nat.Text(got))
		}
	})
}

// P30.14 of what is asked: a state in which all users have other ids is answered alike, with these.
func TestNamesDoNotCount(t *testing.T) {
	one, two := named(0), named(1000)
	v, w := query.New(sounded(t, one)), query.New(sounded(t, two))
	for id := uint64(16); id < 20; id++ {
		for _, kind := range []int{askAccount, askVal} {
			wantAnswer(t, "P30.14: of an id", w.One(api.Ask{Kind: kind, A: id + 1000}), v.One(api.Ask{Kind: kind, A: id}))
		}
		for other := uint64(16); other < 20; other++ {
			for _, kind := range []int{askDelegation, askClaim} {
				wantAnswer(t, "P30.14: of two ids", w.One(api.Ask{Kind: kind, A: id + 1000, B: other + 1000}), v.One(api.Ask{Kind: kind, A: id, B: other}))
			}
		}
	}
	wantTotals(t, "P30.14", w.Totals(), v.Totals())
}

// named tells a state whose users' ids have that added.
func named(k uint64) *kv.Store {
	s := bare()
	stake.SetParams(s, api.Params{Max: 2, Unbond: 9, Entries: 3, Down: 3333, Age: 9, Keeper: 16 + k})
	for id := uint64(16); id < 20; id++ {
		bank.Mint(s, id+k, 1000)
	}
	stake.Create(s, 16+k, 777, 100)
	stake.Create(s, 17+k, 0, 50)
	stake.Delegate(s, 16+k, 18+k, 33)
	stake.Elect(s)
	fees(s, 19+k, 71)
	slash.Fault(s, api.FaultDown, 16+k, 0)
	stake.Elect(s)
	fees(s, 19+k, 71)
	return s
}
