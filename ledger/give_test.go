package ledger_test

import (
	"math/big"
	"testing"

	"glean/api"
	"glean/dec"
	"glean/ledger"
)

// P24.1: the chapter's example.
func TestExample(t *testing.T) {
	l := ledger.New()
	l.Hold(16, 17, dec.Of(1), dec.Of(3), 10)
	wantStake(t, "P24.2: held", l, 16, 17, fraction(10, 3), none())
	l.Give(16, dec.Of(3), 10)
	wantStake(t, "P24.1: given", l, 16, 17, fraction(10, 3), fraction(1, 1))
	l.Cut(16, 10, 5)
	wantStake(t, "P24.1: cut", l, 16, 17, fraction(5, 3), fraction(1, 1))
	l.Give(16, dec.Of(1), 5)
	wantStake(t, "P24.1: given anew", l, 16, 17, fraction(5, 3), fraction(4, 3))
	wantSettled(t, "P24.2", l, 16, 17, fraction(4, 3), 2, 1)
	wantStake(t, "P24.2: settled", l, 16, 17, fraction(5, 3), none())
}

// P24.1: each stake of the validator is owed its part, those of others nothing.
func TestGive(t *testing.T) {
	l := three()
	l.Give(16, parsed(t, "0.5"), 10)
	wantStake(t, "P24.1: a third", l, 16, 17, fraction(10, 3), fraction(1, 6))
	wantStake(t, "P24.1: two thirds", l, 16, 18, fraction(20, 3), fraction(1, 3))
	wantStake(t, "P24.1: another validator's", l, 19, 17, fraction(6, 1), none())
	l.Give(19, dec.Of(2), 7)
	wantStake(t, "P24.1: tokens that aren't the stakes together", l, 19, 17, fraction(6, 1), fraction(12, 7))
	l.Give(17, dec.Of(9), 9)
	l.Give(18, dec.Of(9), 9)
	wantStake(t, "P24.1: an id that is a delegator's", l, 16, 17, fraction(10, 3), fraction(1, 6))
	wantStake(t, "P24.1: an id that is a delegator's", l, 19, 17, fraction(6, 1), fraction(12, 7))
}

// P24.1: what is owed comes from many gives, a stake's worth being what it is at each of them.
func TestGiveAddsUp(t *testing.T) {
	l := three()
	for range 3 {
		l.Give(16, dec.Of(1), 10)
	}
	wantStake(t, "P24.1: three times", l, 16, 17, fraction(10, 3), fraction(1, 1))
	l.Hold(16, 17, dec.Of(1), dec.Of(1), 6)
	wantStake(t, "P24.2: held anew", l, 16, 17, fraction(6, 1), fraction(1, 1))
	l.Give(16, dec.Of(1), 12)
	wantStake(t, "P24.1: of the new stake", l, 16, 17, fraction(6, 1), fraction(3, 2))
}

// P24.1: of 0 tokens nothing is given, of 0 coins nothing either.
func TestGiveNothing(t *testing.T) {
	l := three()
	l.Give(16, dec.Of(3), 0)
	l.Give(16, dec.Of(top), 0)
	l.Give(16, api.Dec{}, 10)
	l.Give(16, api.Dec{Raw: api.Nat{0, 0}}, 10)
	l.Give(16, api.Dec{}, 0)
	l.Give(21, dec.Of(3), 10)
	wantStake(t, "P24.1: nothing", l, 16, 17, fraction(10, 3), none())
	wantAll(t, "P24.1: nothing", l, 16, fraction(10, 1), none())
	wantSettled(t, "P24.2: to give closes no period", l, 16, 17, none(), 1, 0)
}

// P24.1: neither the greatest numbers nor the least ones are rounded.
func TestGiveAtTheEdges(t *testing.T) {
	hair := api.Dec{Raw: api.Nat{1}}
	l := ledger.New()
	l.Hold(0, top, hair, dec.Of(top), 1)
	l.Hold(top, 0, dec.Of(top), hair, top)
	l.Hold(top, top, dec.Of(top), dec.Of(top), top)
	least := new(big.Rat).SetFrac(big.NewInt(1), new(big.Int).Mul(scale, whole(top)))
	greatest := new(big.Rat).SetInt(new(big.Int).Mul(scale, new(big.Int).Mul(whole(top), whole(top))))
	all := new(big.Rat).SetInt(whole(top))
	wantStake(t, "P24.2: the least stake", l, 0, top, least, none())
	wantStake(t, "P24.2: the greatest one", l, top, 0, greatest, none())
	wantStake(t, "P24.2: all of the tokens", l, top, top, all, none())
	l.Give(0, hair, top)
	least.Mul(least, new(big.Rat).SetFrac(big.NewInt(1), new(big.Int).Mul(scale, whole(top))))
	wantRat(t, "P24.1: the least reward", l.Owed(0, top), least)
	l.Give(top, dec.Of(top), 1)
	wantRat(t, "P24.1: the greatest reward", l.Owed(top, 0), new(big.Rat).Mul(greatest, all))
	wantRat(t, "P24.1: the greatest reward", l.Owed(top, top), new(big.Rat).Mul(all, all))
	l.Cut(top, 1, top)
	wantRat(t, "P24.1: the greatest cut", l.Stake(top, top), new(big.Rat).Mul(all, all))
	l.Cut(top, top, 1)
	wantRat(t, "P24.1: the least cut", l.Stake(top, top), all)
}

// P24.1: Decs count by their values, whatever stands behind their highest limb, and have any size.
func TestDecsOfAnyForm(t *testing.T) {
	long := api.Dec{Raw: append(make(api.Nat, 40), 5, 0, 0)}
	l := ledger.New()
	l.Hold(16, 17, long, api.Dec{Raw: append(make(api.Nat, 39), 10, 0)}, 3)
	share := new(big.Rat).SetFrac(new(big.Int).Mul(big.NewInt(3), new(big.Int).Lsh(big.NewInt(1), 64)), big.NewInt(2))
	wantStake(t, "P24.2: long Decs", l, 16, 17, share, none())
	l.Give(16, long, 7)
	owed := new(big.Rat).Mul(share, new(big.Rat).Quo(decValue(long), fraction(7, 1)))
	wantStake(t, "P24.1: a long reward", l, 16, 17, share, owed)
}

// P24.1: a cut changes each stake of the validator in the same way, and nothing that is owed.
func TestCut(t *testing.T) {
	l := three()
	l.Give(16, dec.Of(3), 10)
	l.Cut(16, 10, 7)
	wantStake(t, "P24.1: cut", l, 16, 17, fraction(7, 3), fraction(1, 1))
	wantStake(t, "P24.1: cut", l, 16, 18, fraction(14, 3), fraction(2, 1))
	wantStake(t, "P24.1: another validator's", l, 19, 17, fraction(6, 1), none())
	l.Cut(16, 7, 7)
	wantStake(t, "P24.1: by nothing", l, 16, 17, fraction(7, 3), fraction(1, 1))
	l.Cut(16, 7, 9)
	wantStake(t, "P24.1: to more than there was", l, 16, 17, fraction(3, 1), fraction(1, 1))
	l.Cut(16, 3, 0)
	wantAll(t, "P24.1: to 0", l, 16, none(), fraction(3, 1))
	l.Cut(16, 1, 8)
	wantAll(t, "P24.1: from 0 nothing comes back", l, 16, none(), fraction(3, 1))
	wantSettled(t, "P24.2", l, 16, 17, fraction(1, 1), 6, 5)
	wantSettled(t, "P24.2: no cut of another validator counts", l, 19, 17, none(), 1, 0)
}

// P24.1: a cut from 0 leaves 0, and counts as any other one does.
func TestCutFromNothing(t *testing.T) {
	for _, after := range []uint64{0, 1, 5, top} {
		l := three()
		l.Give(16, dec.Of(3), 10)
		l.Cut(16, 0, after)
		wantStake(t, "P24.1: before 0", l, 16, 17, none(), fraction(1, 1))
		wantAll(t, "P24.1: before 0", l, 16, none(), fraction(3, 1))
		wantStake(t, "P24.1: before 0, another validator's", l, 19, 17, fraction(6, 1), none())
		l.Give(16, dec.Of(3), 10)
		wantSettled(t, "P24.2: before 0", l, 16, 17, fraction(1, 1), 2, 1)
	}
}

// P24.1: cuts and gives of a validator that has no stakes leave none behind.
func TestOfNoStakes(t *testing.T) {
	l := ledger.New()
	l.Give(16, dec.Of(3), 10)
	l.Cut(16, 10, 5)
	l.Cut(16, 0, 0)
	wantAll(t, "P24.1: no stakes", l, 16, none(), none())
	l.Hold(16, 17, dec.Of(1), dec.Of(1), 10)
	wantStake(t, "P24.2: nothing of before", l, 16, 17, fraction(10, 1), none())
	wantSettled(t, "P24.2: nothing of before", l, 16, 17, none(), 1, 0)
}
