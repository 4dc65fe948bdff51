package ledger_test

import (
	"testing"

	"glean/api"
	"glean/dec"
	"glean/ledger"
)

// P24.2: Settle closes a period of each of the validator's stakes, and lets one begin anew.
func TestSettle(t *testing.T) {
	l := three()
	l.Give(16, dec.Of(3), 10)
	l.Cut(16, 10, 5)
	wantSettled(t, "P24.2: the first", l, 16, 17, fraction(1, 1), 2, 1)
	wantStake(t, "P24.2: it has its stake", l, 16, 17, fraction(5, 3), none())
	wantStake(t, "P24.2: the other one is owed all", l, 16, 18, fraction(10, 3), fraction(2, 1))
	wantSettled(t, "P24.2: at once anew", l, 16, 17, none(), 1, 0)
	wantSettled(t, "P24.2: the other one", l, 16, 18, fraction(2, 1), 4, 1)
	wantSettled(t, "P24.2: the first, behind the other one", l, 16, 17, none(), 2, 0)
	wantSettled(t, "P24.2: another validator's", l, 19, 17, none(), 1, 0)
}

// P24.2: where there is no stake nothing is told, but a period of the validator's stakes has closed.
func TestSettleOfNone(t *testing.T) {
	l := ledger.New()
	wantSettled(t, "P24.2: an empty ledger", l, 16, 17, none(), 0, 0)
	wantSettled(t, "P24.2: that makes no stake", l, 16, 17, none(), 0, 0)
	l = three()
	l.Give(16, dec.Of(3), 10)
	l.Cut(16, 2, 1)
	wantSettled(t, "P24.2: no such delegator", l, 16, 99, none(), 0, 0)
	wantSettled(t, "P24.2: no such validator", l, 17, 16, none(), 0, 0)
	wantSettled(t, "P24.2: of another validator", l, 19, 18, none(), 0, 0)
	wantSettled(t, "P24.2: the period of none counts", l, 16, 17, fraction(1, 1), 3, 1)
	wantSettled(t, "P24.2: the period of none counts", l, 19, 17, none(), 2, 0)
}

// P24.2: a stake is x times the tokens by the shares.
func TestHold(t *testing.T) {
	l := ledger.New()
	l.Hold(16, 17, parsed(t, "0.1"), parsed(t, "0.3"), 7)
	wantStake(t, "P24.2", l, 16, 17, fraction(7, 3), none())
	l.Hold(16, 17, parsed(t, "2.5"), parsed(t, "0.5"), 7)
	wantStake(t, "P24.2: more than all shares", l, 16, 17, fraction(35, 1), none())
	l.Hold(16, 17, dec.Of(3), dec.Of(3), top)
	wantRat(t, "P24.2: all", l.Stake(16, 17), ratValue(top))
	l.Hold(16, 17, dec.Of(3), dec.Of(3), 0)
	wantStake(t, "P24.2: no tokens", l, 16, 17, none(), none())
	l.Hold(16, 17, api.Dec{}, dec.Of(3), 5)
	wantStake(t, "P24.2: none of the shares", l, 16, 17, none(), none())
}

// P24.2: of 0 shares a stake is 0, and it is one.
func TestHoldOfNoShares(t *testing.T) {
	for _, shares := range []api.Dec{{}, {Raw: api.Nat{}}, {Raw: api.Nat{0, 0, 0}}} {
		l := three()
		l.Hold(16, 18, dec.Of(2), shares, 10)
		l.Hold(16, 20, api.Dec{}, shares, 10)
		wantStake(t, "P24.2: shares 0", l, 16, 18, none(), none())
		wantStake(t, "P24.2: shares 0", l, 16, 20, none(), none())
		l.Give(16, dec.Of(1), 1)
		l.Cut(16, 2, 1)
		wantAll(t, "P24.2: shares 0", l, 16, fraction(5, 3), fraction(10, 3))
		wantSettled(t, "P24.2: a stake of 0 is one", l, 16, 18, none(), 2, 1)
		wantSettled(t, "P24.2: a stake of 0 is one", l, 16, 20, none(), 3, 1)
	}
}

// P24.2: to hold what was held changes neither what is owed nor the counts.
func TestHoldAnew(t *testing.T) {
	l := three()
	l.Give(16, dec.Of(3), 10)
	l.Cut(16, 10, 5)
	l.Hold(16, 17, dec.Of(2), dec.Of(1), 4)
	wantStake(t, "P24.2: held anew", l, 16, 17, fraction(8, 1), fraction(1, 1))
	l.Hold(16, 17, dec.Of(2), api.Dec{}, 4)
	wantStake(t, "P24.2: held at 0", l, 16, 17, none(), fraction(1, 1))
	wantStake(t, "P24.2: the other one", l, 16, 18, fraction(10, 3), fraction(2, 1))
	wantStake(t, "P24.2: another validator's", l, 19, 17, fraction(6, 1), none())
	wantSettled(t, "P24.2: held anew", l, 16, 17, fraction(1, 1), 2, 1)
}

// P24.2: to hold what wasn't held begins with nothing, also if there was one before.
func TestHoldBehindDrop(t *testing.T) {
	l := three()
	l.Give(16, dec.Of(3), 10)
	l.Cut(16, 10, 5)
	l.Drop(16, 17)
	wantStake(t, "P24.2: dropped", l, 16, 17, none(), none())
	wantAll(t, "P24.2: dropped", l, 16, fraction(10, 3), fraction(2, 1))
	wantSettled(t, "P24.2: dropped", l, 16, 17, none(), 0, 0)
	l.Hold(16, 17, dec.Of(1), dec.Of(1), 4)
	wantStake(t, "P24.2: held behind that", l, 16, 17, fraction(4, 1), none())
	wantSettled(t, "P24.2: held behind that", l, 16, 17, none(), 1, 0)
	wantSettled(t, "P24.2: the other one", l, 16, 18, fraction(2, 1), 4, 1)
}

// P24.2: Drop takes one stake alone, and none where there is none.
func TestDrop(t *testing.T) {
	l := ledger.New()
	l.Drop(16, 17)
	wantAll(t, "P24.2: an empty ledger", l, 16, none(), none())
	l = three()
	l.Give(16, dec.Of(3), 10)
	l.Drop(16, 99)
	l.Drop(17, 16)
	l.Drop(19, 18)
	wantAll(t, "P24.2: nobody's", l, 16, fraction(10, 1), fraction(3, 1))
	l.Drop(16, 17)
	l.Drop(16, 17)
	wantStake(t, "P24.2: the other one", l, 16, 18, fraction(20, 3), fraction(2, 1))
	wantStake(t, "P24.2: the same delegator's elsewhere", l, 19, 17, fraction(6, 1), none())
	l.Drop(16, 18)
	wantAll(t, "P24.2: all gone", l, 16, none(), none())
	wantAll(t, "P24.2: another validator's", l, 19, fraction(6, 1), none())
}

// P24.3: of none 0 / 1 is told, of several their sum.
func TestTold(t *testing.T) {
	l := ledger.New()
	wantStake(t, "P24.3: an empty ledger", l, 16, 17, none(), none())
	wantAll(t, "P24.3: an empty ledger", l, 16, none(), none())
	l = three()
	l.Give(16, dec.Of(1), 10)
	l.Give(19, dec.Of(1), 9)
	wantStake(t, "P24.3: no such delegator", l, 16, 16, none(), none())
	wantStake(t, "P24.3: turned round", l, 17, 16, none(), none())
	wantAll(t, "P24.3: no such validator", l, 17, none(), none())
	wantAll(t, "P24.3: two", l, 16, fraction(10, 1), fraction(1, 1))
	wantAll(t, "P24.3: one", l, 19, fraction(6, 1), fraction(2, 3))
	l.Hold(16, 20, dec.Of(1), dec.Of(7), 3)
	wantAll(t, "P24.3: three", l, 16, fraction(73, 7), fraction(1, 1))
}

// What is told changes nothing, and is told alike however often it is asked for.
func TestToTellChangesNothing(t *testing.T) {
	l := three()
	l.Give(16, dec.Of(3), 10)
	for range 3 {
		wantStake(t, "P24.3: asked", l, 16, 17, fraction(10, 3), fraction(1, 1))
		wantStake(t, "P24.3: asked of none", l, 16, 16, none(), none())
		wantAll(t, "P24.3: asked", l, 16, fraction(10, 1), fraction(3, 1))
	}
	wantSettled(t, "P24.2: asked before", l, 16, 17, fraction(1, 1), 1, 0)
	wantSettled(t, "P24.2: asked before", l, 16, 16, none(), 0, 0)
}
