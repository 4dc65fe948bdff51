package audit_test

import (
	"testing"

	"glean/api"
	"glean/audit"
)

// shared tells an audit in which 16 has 60 coins behind itself and 40 of 17, and 10 are given in the next block.
func shared(t *testing.T) *audit.Audit {
	t.Helper()
	a := begun(t, plain(api.Founder{Op: 16, Tokens: 60}))
	block(t, a, tx(17, 0, 0, delegate, 16, 40), tx(21, 0, 10, fund, 0))
	return a
}

// P25.2: a fault that cuts a validator's tokens cuts its stakes, and closes a period; what was owed ahead of it stays.
func TestCut(t *testing.T) {
	a := shared(t)
	wantAudited(t, "P25.2: a fault alone", block(t, a, fault(down, 16, 1), tx(16, 0, 0, unjail), tx(21, 1, 9, fund, 0)))
	got := block(t, a, tx(17, 1, 0, withdraw, 16), tx(16, 1, 0, withdraw, 16), tx(21, 2, 90, fund, 0))
	wantAudited(t, "P25.2: 4 of 10, and 3.6 of 9", got,
		api.Audited{Val: 16, Del: 17, W: 7, Q: parsed(t, "0.6"), E: ratOf(fraction(76, 10)), P: 2, K: 1, Fits: true},
		api.Audited{Val: 16, Del: 16, W: 11, Q: parsed(t, "0.4"), E: ratOf(fraction(114, 10)), P: 4, K: 1, Fits: true},
	)
	got = block(t, a, tx(16, 2, 0, withdraw, 16), tx(17, 2, 0, withdraw, 16))
	wantAudited(t, "P25.2: the cut is over", got,
		api.Audited{Val: 16, Del: 16, W: 54, E: ratOf(fraction(54, 1)), P: 1, Fits: true},
		api.Audited{Val: 16, Del: 17, W: 36, E: ratOf(fraction(36, 1)), P: 3, Fits: true},
	)
}

// P25.2: a block may have several faults of a validator, and payments between them; each one counts for who stands there then.
func TestSeveralCuts(t *testing.T) {
	a := shared(t)
	got := block(t, a, fault(down, 16, 1), tx(16, 0, 0, unjail), tx(17, 1, 0, withdraw, 16), fault(down, 16, 1), tx(16, 1, 0, unjail), fault(double, 16, 2), tx(16, 2, 0, withdraw, 16), tx(17, 2, 0, delegate, 16, 41))
	wantAudited(t, "P25.2: three cuts", got,
		api.Audited{Val: 16, Del: 17, W: 4, E: ratOf(fraction(4, 1)), P: 2, K: 1, Fits: true},
		api.Audited{Val: 16, Del: 16, W: 6, E: ratOf(fraction(6, 1)), P: 6, K: 3, Fits: true},
		api.Audited{Val: 16, Del: 17, E: ratOf(fraction(0, 1)), P: 4, K: 2, Fits: true},
	)
}

// P25.2: what came between two cuts is owed by the stake of then: a tenth and a tenth of it.
func TestRewardsBetweenCuts(t *testing.T) {
	a := shared(t)
	block(t, a, fault(down, 16, 1), tx(16, 0, 90, unjail))
	block(t, a, fault(down, 16, 1), tx(16, 1, 81, unjail), tx(18, 0, 0, delegate, 16, 81))
	got := block(t, a, tx(17, 1, 0, withdraw, 16))
	wantAudited(t, "P25.2: 4 of 10, 36 of 90, a fifth of 81", got,
		api.Audited{Val: 16, Del: 17, W: 56, Q: parsed(t, "0.2"), E: ratOf(fraction(562, 10)), P: 4, K: 2, Fits: true})
}

// P25.2: a fault that cuts nothing, as a tenth of 9 is less than a coin, closes no period.
func TestFaultWithoutACut(t *testing.T) {
	a := begun(t, plain(api.Founder{Op: 16, Tokens: 9}))
	block(t, a, tx(21, 0, 9, fund, 0))
	got := block(t, a, fault(down, 16, 1), tx(16, 0, 0, withdraw, 16))
	wantAudited(t, "P25.2: no cut", got, api.Audited{Val: 16, Del: 16, W: 9, E: ratOf(fraction(9, 1)), P: 1, Fits: true})
}

// P25.2: a fault that is refused cuts nothing.
func TestRefusedFaults(t *testing.T) {
	a := shared(t)
	block(t, a, fault(down, 16, 1))
	items := [][]byte{fault(down, 16, 1), fault(double, 16, 4), fault(double, 17, 1), fault(3, 16, 1), fault(double, 16, 1)[:17], tx(16, 0, 0, withdraw, 16)}
	report, all, e := a.Block(items)
	wantErr(t, "P25.2: Block", e, api.OK)
	for i, want := range []api.Errno{164, 162, 161, 160, 170, 0} {
		wantErr(t, "P16.1: a fault", report.Replies[i].Err, want)
	}
	wantAudited(t, "P25.2: the first fault alone", all, api.Audited{Val: 16, Del: 16, W: 6, E: ratOf(fraction(6, 1)), P: 3, K: 1, Fits: true})
}

// P25.2: a cut of all tokens leaves stakes of 0: what was owed is paid, and nothing more is owed.
func TestCutToNothing(t *testing.T) {
	g := plain(api.Founder{Op: 16, Tokens: 60}, api.Founder{Op: 18, Tokens: 1})
	g.Params.Down = 10000
	a := begun(t, g)
	block(t, a, tx(17, 0, 0, delegate, 16, 40), tx(21, 0, 101, fund, 0))
	got := block(t, a, fault(down, 16, 1), tx(17, 1, 101, withdraw, 16), tx(16, 0, 0, unjail))
	wantAudited(t, "P25.2: cut to nothing", got, api.Audited{Val: 16, Del: 17, W: 40, E: ratOf(fraction(40, 1)), P: 2, K: 1, Fits: true})
	got = block(t, a, tx(17, 2, 0, withdraw, 16), tx(16, 1, 0, undelegate, 16, 0), tx(17, 3, 0, undelegate, 16, 0), tx(18, 0, 0, withdraw, 18))
	wantAudited(t, "P25.2: nothing more", got,
		api.Audited{Val: 16, Del: 17, E: ratOf(fraction(0, 1)), P: 1, Fits: true},
		api.Audited{Val: 16, Del: 16, W: 60, E: ratOf(fraction(60, 1)), P: 5, K: 1, Fits: true},
		api.Audited{Val: 16, Del: 17, E: ratOf(fraction(0, 1)), P: 2, Fits: true},
		api.Audited{Val: 18, Del: 18, W: 102, E: ratOf(fraction(102, 1)), P: 1, Fits: true},
	)
}

// P25.2: payments by a fault, of what has moved to other validators since, are audited of those validators, in their order.
func TestMovesAreCut(t *testing.T) {
	a := begun(t, plain(api.Founder{Op: 16, Tokens: 60}, api.Founder{Op: 18, Tokens: 10}, api.Founder{Op: 19, Tokens: 20}))
	block(t, a, tx(17, 0, 0, delegate, 16, 40), tx(20, 0, 0, delegate, 16, 10))
	block(t, a, tx(17, 1, 0, redelegate, 16, 18, 30), tx(20, 1, 0, redelegate, 16, 19, 10), tx(17, 2, 140, redelegate, 16, 19, 10))
	got := block(t, a, fault(double, 16, 2))
	wantAudited(t, "P25.2: half of what has moved", got,
		api.Audited{Val: 18, Del: 17, W: 30, E: ratOf(fraction(30, 1)), P: 1, Fits: true},
		api.Audited{Val: 19, Del: 20, W: 10, E: ratOf(fraction(10, 1)), P: 2, Fits: true},
		api.Audited{Val: 19, Del: 17, W: 10, E: ratOf(fraction(10, 1)), P: 2, Fits: true},
	)
	got = block(t, a, tx(16, 0, 0, withdraw, 16), tx(18, 0, 55, withdraw, 18), tx(20, 2, 0, withdraw, 19))
	wantAudited(t, "P25.2: of 16 a cut, of the others none", got,
		api.Audited{Val: 16, Del: 16, W: 60, E: ratOf(fraction(60, 1)), P: 7, K: 1, Fits: true},
		api.Audited{Val: 18, Del: 18, W: 10, E: ratOf(fraction(10, 1)), P: 3, Fits: true},
		api.Audited{Val: 19, Del: 20, E: ratOf(fraction(0, 1)), P: 2, Fits: true},
	)
	got = block(t, a, tx(17, 3, 0, withdraw, 18), tx(17, 4, 0, withdraw, 19), tx(20, 3, 0, withdraw, 19))
	wantAudited(t, "P25.2: 15 of 25, 5 of 30", got,
		api.Audited{Val: 18, Del: 17, W: 15, E: ratOf(fraction(15, 1)), P: 2, Fits: true},
		api.Audited{Val: 19, Del: 17, W: 5, E: ratOf(fraction(5, 1)), P: 2, Fits: true},
		api.Audited{Val: 19, Del: 20, W: 5, E: ratOf(fraction(5, 1)), P: 2, Fits: true},
	)
}

// P25.2: what a fault takes all of is dropped.
func TestAMoveIsTakenWhole(t *testing.T) {
	g := plain(api.Founder{Op: 16, Tokens: 60}, api.Founder{Op: 18, Tokens: 10})
	g.Params.Double = 10000
	a := begun(t, g)
	block(t, a, tx(17, 0, 0, delegate, 16, 40))
	block(t, a, tx(17, 1, 110, redelegate, 16, 18, 40))
	got := block(t, a, fault(double, 16, 2), tx(17, 2, 0, delegate, 18, 1))
	wantAudited(t, "P25.2: taken whole, and anew", got,
		api.Audited{Val: 18, Del: 17, W: 40, E: ratOf(fraction(40, 1)), P: 1, Fits: true},
		api.Audited{Val: 18, Del: 17, E: ratOf(fraction(0, 1)), Fits: true},
	)
}
