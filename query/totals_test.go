package query_test

import (
	"sync"
	"testing"

	"glean/api"
	"glean/bank"
	"glean/kv"
	"glean/nat"
	"glean/query"
	"glean/stake"
)

// P23.3: what there is of each, by hand.
func TestTotalsByHand(t *testing.T) {
	v := query.New(plain(t))
	wantTotals(t, "P23.3: by hand", v.Totals(), api.Totals{
		Vals: 2, Dels: 4, Entries: 2, Coins: api.Nat{500}, Tokens: api.Nat{58}, Balances: api.Nat{10},
		Pool: parsed(t, "0.5"), Outstanding: parsed(t, "78.5"), Shares: parsed(t, "58"),
	})
}

// P23.3: of an empty state all is 0, and it was reckoned nevertheless.
func TestNoTotals(t *testing.T) {
	v := query.New(kv.New())
	wantTotals(t, "P23.3: of an empty state", v.Totals(), api.Totals{})
	wantReckoned(t, v, 1)
	b := query.New(sounded(t, bare()))
	wantTotals(t, "P23.3: of a state without accounts", b.Totals(), api.Totals{})
}

// P23.3: as many coins as there may be, by many accounts and validators; moves have no Balance.
func TestGreatTotals(t *testing.T) {
	s := bare()
	const each = uint64(1_000_000_000_000_000_000 / 100)
	for id := uint64(16); id < 116; id++ {
		bank.Mint(s, id, each)
		stake.Create(s, id, 0, each)
	}
	stake.Redelegate(s, 16, 17, 16, 7)
	stake.Undelegate(s, 18, 18, 0)
	stake.Elect(s)
	v := query.New(sounded(t, s))
	all := nat.Of(1_000_000_000_000_000_000)
	tokens, _ := nat.Sub(all, nat.Of(each))
	shares := api.Dec{Raw: natOf(coins(99 * each))}
	wantTotals(t, "P23.3: great ones", v.Totals(), api.Totals{Vals: 99, Dels: 100, Entries: 2, Coins: all, Tokens: tokens, Balances: nat.Of(each), Shares: shares})
}

// P23.3: totals are reckoned when they are first asked for, and by nothing else.
func TestReckonedOnce(t *testing.T) {
	s := grown()
	v := query.New(s)
	for range 2 {
		wantReckoned(t, v, 0)
		for _, a := range allAsks(s) {
			v.One(a)
		}
		wantMany(t, v, allAsks(s)[:100], 4)
	}
	for range 3 {
		wantTotals(t, "P23.3: asked for again", v.Totals(), seen(s).totals())
		wantReckoned(t, v, 1)
	}
	wantReckoned(t, query.New(s), 0)
}

// P23.3: however many goroutines ask at once, totals are reckoned once, and all are told the same.
func TestReckonedOnceByMany(t *testing.T) {
	s := grown()
	want := seen(s).totals()
	for range 200 {
		v := query.New(s)
		var all sync.WaitGroup
		for range 16 {
			all.Add(1)
			go func() {
				defer all.Done()
				if early := v.Reckoned(); early != 0 && early != 1 {
					t.Errorf("P23.3: reckoned %d times", early)
				}
				if got := v.Totals(); !sameTotals(got, want) {
					t.Errorf("P23.3: %v, not %v", got, want)
				}
				if got := v.Reckoned(); got != 1 {
					t.Errorf("P23.3: reckoned %d times", got)
				}
			}()
		}
		all.Wait()
		wantReckoned(t, v, 1)
	}
}
