package audit_test

import (
	"testing"

	"glean/api"
	"glean/audit"
)

// long does many blocks, each with a fee that is hard to share out, and one more item in some of them, which may be refused; the rest must be as a run promises.
func long(t *testing.T, a *audit.Audit, blocks int, item func(i int) []byte) {
	t.Helper()
	for i := range blocks {
		items := [][]byte{tx(21, uint64(i), 1+uint64(i*i%7), fund, 0)}
		if x := item(i); x != nil {
			items = append(items, x)
		}
		_, all, e := a.Block(items)
		wantErr(t, "P25.2: Block", e, api.OK)
		wantFit(t, a, all)
	}
}

// wantFit fails unless all fits, and all is covered.
func wantFit(t *testing.T, a *audit.Audit, all []api.Audited) {
	t.Helper()
	for _, x := range all {
		if !x.Fits {
			t.Fatalf("P25.4: %+v", x)
		}
	}
	for id := uint64(15); id < 22; id++ {
		if owed, covered := a.Owes(id); !covered {
			t.Fatalf("P25.4: %d: %v isn't covered", id, owed)
		}
	}
}

// P25.4: also who is paid once in many blocks is paid within the bound; each period that others close counts.
func TestManyPeriods(t *testing.T) {
	a := begun(t, plain(api.Founder{Op: 16, Rate: 333, Tokens: 7}, api.Founder{Op: 18, Tokens: 11}))
	block(t, a, tx(17, 0, 0, delegate, 16, 13))
	long(t, a, 150, func(i int) []byte { return tx(16, uint64(i), 0, withdraw, 16) })
	got := block(t, a, tx(17, 1, 0, withdraw, 16), tx(18, 0, 0, withdraw, 18))
	wantFit(t, a, got)
	if len(got) != 2 || got[0].P != 151 || got[1].P != 1 || got[0].W < 60 || len(got[0].E.Num) == 0 {
		t.Fatalf("P25.2: %+v", got)
	}
}

// P25.4: also along many cuts: who comes back each time is cut each time, till it has no more than 9 coins.
func TestManyCuts(t *testing.T) {
	g := plain(api.Founder{Op: 16, Tokens: 301}, api.Founder{Op: 18, Tokens: 11})
	g.Params.Age = 1000
	a := begun(t, g)
	block(t, a, tx(17, 0, 0, delegate, 16, 499))
	long(t, a, 100, func(i int) []byte {
		if i%2 == 0 {
			return fault(down, 16, 1)
		}
		return tx(16, uint64(i/2), 0, unjail)
	})
	got := block(t, a, tx(17, 1, 0, withdraw, 16), tx(16, 50, 0, withdraw, 16))
	wantFit(t, a, got)
	if len(got) != 2 || got[0].K < 30 || got[0].P != got[0].K+1 || got[1].K != got[0].K || got[1].P != got[0].P+2 {
		t.Fatalf("P25.2: %+v", got)
	}
}

// P25.4: also of the most coins that there may be, and of a single one.
func TestGreatAndSmall(t *testing.T) {
	g := plain(api.Founder{Op: 16, Tokens: 1}, api.Founder{Op: 18, Rate: 9999, Tokens: api.MaxSupply / 2})
	g.Accounts[2].Coins = api.MaxSupply - 5000
	a := begun(t, g)
	block(t, a, tx(18, 0, 333_333_333_333_333_333, delegate, 16, 1), tx(17, 0, 0, delegate, 18, 1), tx(19, 0, 0, delegate, 16, 999))
	got := block(t, a, tx(16, 0, 0, withdraw, 16), tx(17, 1, 0, withdraw, 18), tx(18, 1, 0, withdraw, 18), fault(double, 18, 1), tx(18, 2, 0, withdraw, 16), tx(17, 2, 0, undelegate, 18, 0))
	wantFit(t, a, got)
	if len(got) != 5 || got[2].W < 33_333_333_333_332 || got[4].K != 1 {
		t.Fatalf("P25.2: %+v", got)
	}
}
