package whole_test

import (
	"math/big"
	"math/rand"
	"testing"

	"glean/api"
	"glean/app"
)

// wantCoins fails unless a state's coins are so many in all, and lie where they must.
func wantCoins(t *testing.T, x state, all *big.Int) {
	t.Helper()
	sum, bonded, loose, shared := new(big.Int), new(big.Int), new(big.Int), raw(x.pool)
	whole := func(n uint64) *big.Int { return new(big.Int).SetUint64(n) }
	for _, a := range x.accounts {
		sum.Add(sum, whole(a.Coins))
	}
	for _, u := range x.unbondings {
		loose.Add(loose, whole(u.Balance))
	}
	for _, v := range x.vals {
		house := loose
		if v.Bonded {
			house = bonded
		}
		house.Add(house, whole(v.Tokens))
		shared.Add(shared, raw(v.Outstanding))
	}
	got := func(id uint64) *big.Int { return whole(x.accounts[id].Coins) }
	switch {
	case sum.Cmp(all) != 0:
		t.Fatalf("P30.3: %s coins, not %s", sum, all)
	case got(api.Bonded).Cmp(bonded) != 0:
		t.Fatalf("P30.3: Bonded has %s coins, not %s", got(api.Bonded), bonded)
	case got(api.Loose).Cmp(loose) != 0:
		t.Fatalf("P30.3: Loose has %s coins, not %s", got(api.Loose), loose)
	case scaled(got(api.Shared)).Cmp(shared) != 0:
		t.Fatalf("P30.3: Shared has %s coins, not %s", got(api.Shared), shared)
	}
}

// coinsOf tells the coins of all accounts of a state.
func coinsOf(x state) *big.Int {
	sum := new(big.Int)
	for _, a := range x.accounts {
		sum.Add(sum, new(big.Int).SetUint64(a.Coins))
	}
	return sum
}

// P30.3: behind each block, and at the beginning.
func TestCoins(t *testing.T) {
	r := rand.New(rand.NewSource(3004))
	for range 60 {
		x := drawnRun(t, r, 30)
		all := new(big.Int)
		for _, a := range x.g.Accounts {
			all.Add(all, new(big.Int).SetUint64(a.Coins))
		}
		wantCoins(t, stateOf(t, begun(t, x.begin).Store()), all)
		through(t, x, func(_ int, e *app.Engine, _ api.Report) { wantCoins(t, stateOf(t, e.Store()), all) })
	}
}

// P30.3: also of as many coins as there may be, of which nearly all are bound, and cut.
func TestMostCoins(t *testing.T) {
	g := api.Genesis{Params: api.Params{Max: 2, Unbond: 1, Entries: 1, Tax: 1, Double: 9999, Down: 3333, Age: 9, Keeper: 16}}
	g.Accounts = []api.Purse{{Id: 16, Coins: api.MaxSupply - 2}, {Id: 17, Coins: 1}, {Id: top, Coins: 1}}
	g.Vals = []api.Founder{{Op: 16, Rate: 1, Tokens: api.MaxSupply / 2}, {Op: top, Tokens: 1}}
	e := begun(t, laid(g))
	for _, items := range [][][]byte{
		{tx(16, 0, 7, delegate, top, api.MaxSupply/4), tx(17, 0, 0, delegate, 16, 1)},
		{fault(down, 16, 1), fault(double, top, 2)},
		{tx(16, 1, 99, unjail), tx(16, 2, 0, redelegate, top, 16, 0)},
		{tx(16, 3, 0, undelegate, 16, 0), tx(16, 4, 0, spend, 17, api.MaxSupply/8)}, {}, {},
	} {
		report := do(t, e, items)
		for i, reply := range report.Replies {
			if reply.Err != api.OK {
				t.Fatalf("P30.1: block %d, item %d: %v", report.Height, i, reply.Err)
			}
		}
		wantCoins(t, stateOf(t, e.Store()), big.NewInt(api.MaxSupply))
	}
}
