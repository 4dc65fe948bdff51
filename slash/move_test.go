package slash_test

import (
	"math/big"
	"testing"

	"glean/api"
	"glean/dec"
	"glean/dist"
	"glean/kv"
	"glean/power"
	"glean/slash"
)

// moved tells a store in which 18 has moved 40 coins from 16, with 60 left, to 17, with 30 of its own; height 6, the move's is 4. Down cuts a quarter.
func moved(t *testing.T) (*kv.Store, *book) {
	t.Helper()
	s, b := begun()
	doParams(s, b, func(p *api.Params) { p.Down, p.Jail = 2500, 0 })
	doCreate(t, s, b, 16, 0, 60)
	doCreate(t, s, b, 17, 1000, 30)
	doDelegate(t, s, b, 16, 18, 40)
	doHeight(s, b, 4)
	doRedelegate(t, s, b, 16, 17, 18, 0)
	doHeight(s, b, 6)
	return s, b
}

// P16.1, by hand: shares are taken where the coins went to; what that pays is told; the coins come from the house there.
func TestMove(t *testing.T) {
	for _, elected := range []bool{false, true} {
		s, b := moved(t)
		var w uint64
		if elected {
			doElect(t, s, b)
			doFees(t, s, b, 19, 13) // by 60 and 70 tokens: 7 to 17, of which 0.7 is the commission; 0.09 a token
			w = 3
		}
		paid, n, e := slash.Fault(s, api.FaultDown, 16, 4)
		wantErr(t, "P16.1: a move", e, api.OK)
		wantCoins(t, "P16.1: a quarter of 60, of 40", n, 15+10)
		q := api.Dec{}
		if elected {
			q = parsed(t, "0.6")
		}
		wantPaids(t, "P16.1: a move", paid, []api.Paid{{Val: 17, Del: 18, W: w, Q: q, Left: dec.Of(30), Shares: dec.Of(60), Tokens: 60}})
		b.fault(down, 16, 4)
		wantBook(t, "P16.1: a move", s, b)
		wantDec(t, "P16.1: the move's shares", b.moves[0].Shares, dec.Of(30))
		wantCoins(t, "P16.1: what was moved", b.moves[0].Initial, 40)
		wantDec(t, "P16.1: the pool", dist.Pool(s), dec.Add(dec.Of(25), q))
		if v := b.vals[17]; v.Jailed || v.Tokens != 60 {
			t.Errorf("P16.1: who took them in is no culprit: %v", v)
		}
		if top := power.Top(s, 9); len(top) != 1 || top[0] != 17 {
			t.Errorf("P16.1: the index: %v", top)
		}
		home := map[bool]uint64{false: loose, true: bonded}[elected]
		wantCoins(t, "P15.10: the house", b.purses[home].Coins, 45+60)
	}
}

// P16.1: each fault cuts a move by what it was at first, as long as shares of it are left, whatever else the delegation has.
func TestMoveCutTwice(t *testing.T) {
	s, b := moved(t)
	doParams(s, b, func(p *api.Params) { p.Down = 4000 })
	doDelegate(t, s, b, 17, 18, 100)
	for i, want := range []uint64{24, 8, 0, 0} {
		paid, _, e := doFault(t, s, b, down, 16, 4)
		wantErr(t, "P16.1: once more", e, api.OK)
		wantDec(t, "P16.1: the move's shares", b.moves[0].Shares, dec.Of(want))
		wantDec(t, "P16.1: the delegation's", b.dels[pair{17, 18}].Shares, dec.Of(100+want))
		if (len(paid) == 1) != (i < 3) {
			t.Errorf("P16.1: behind %d cuts: %v", i, paid)
		}
		doUnjail(t, s, b, 16)
	}
}

// P16.1: no more is taken than the delegation has: what has left it since is out of reach.
func TestMoveMostlyGone(t *testing.T) {
	for _, x := range []struct{ leaves, cut uint64 }{{29, 10}, {30, 10}, {31, 9}, {39, 1}, {0, 0}} {
		s, b := moved(t)
		doUndelegate(t, s, b, 17, 18, x.leaves)
		paid, n, e := doFault(t, s, b, down, 16, 4)
		wantErr(t, "P16.1: mostly gone", e, api.OK)
		wantCoins(t, "P16.1: mostly gone", n, 15+x.cut)
		wantDec(t, "P16.1: the move's shares", b.moves[0].Shares, dec.Of(40-x.cut))
		if (len(paid) == 1) != (x.cut > 0) {
			t.Errorf("P16.1: mostly gone: %v", paid)
		}
		if _, held := b.dels[pair{17, 18}]; held != (x.cut == 10 && x.leaves != 30) {
			t.Errorf("P16.1: %d left, %d cut: the delegation is there: %t", x.leaves, x.cut, held)
		}
	}
}

// P16.1: of a move to where no validator, no delegation or no token is, nothing is taken.
func TestMoveToNothing(t *testing.T) {
	for _, what := range []string{"no delegation", "no validator", "no tokens"} {
		s, b := moved(t)
		switch what {
		case "no delegation":
			doUndelegate(t, s, b, 17, 18, 0)
		case "no validator":
			doUndelegate(t, s, b, 17, 18, 0)
			doUndelegate(t, s, b, 17, 17, 0)
		default:
			doParams(s, b, func(p *api.Params) { p.Double = 10000 })
			doFault(t, s, b, double, 17, 6)
		}
		was := b.vals[17]
		paid, n, e := doFault(t, s, b, down, 16, 4)
		wantErr(t, "P16.1: "+what, e, api.OK)
		wantCoins(t, "P16.1: "+what, n, 15)
		wantPaids(t, "P16.1: "+what, paid, nil)
		wantDec(t, "P16.1: the move stays, "+what, b.moves[0].Shares, dec.Of(40))
		wantCoins(t, "P16.1: no period is closed, "+what, b.vals[17].Period, was.Period)
	}
}

// P16.1: to a validator that came anew, with a delegation of the same delegator: that is what there is to take.
func TestMoveToOneAnew(t *testing.T) {
	s, b := moved(t)
	doUndelegate(t, s, b, 17, 18, 0)
	doUndelegate(t, s, b, 17, 17, 0)
	doCreate(t, s, b, 17, 0, 5)
	doDelegate(t, s, b, 17, 18, 12)
	paid, n, e := doFault(t, s, b, down, 16, 4)
	wantErr(t, "P16.1: anew", e, api.OK)
	wantCoins(t, "P16.1: anew", n, 15+10)
	wantPaids(t, "P16.1: anew", paid, []api.Paid{{Val: 17, Del: 18, Left: dec.Of(2), Shares: dec.Of(7), Tokens: 7}})
}

// P16.1: a validator whose last share is cut ends; its coins come from the house that it had.
func TestMoveEndsAValidator(t *testing.T) {
	for _, elected := range []bool{false, true} {
		s, b := moved(t)
		doParams(s, b, func(p *api.Params) { p.Down = 10000 })
		if elected {
			doElect(t, s, b)
			doFees(t, s, b, 19, 13)
		}
		doUndelegate(t, s, b, 17, 17, 0)
		home := map[bool]uint64{false: loose, true: bonded}[elected]
		was := b.purses[home].Coins
		paid, n, e := doFault(t, s, b, down, 16, 4)
		wantErr(t, "P16.1: the last share", e, api.OK)
		wantCoins(t, "P16.1: the last share", n, 100)
		if len(paid) != 1 || paid[0].Tokens != 0 || !dec.Zero(paid[0].Left) || !dec.Zero(paid[0].Shares) {
			t.Errorf("P16.1: the last share: %v", paid)
		}
		if _, there := dist.Val(s, 17); there {
			t.Error("P15.5: a validator without shares")
		}
		wantCoins(t, "P16.1: the house", b.purses[home].Coins, was-100)
		wantDec(t, "P16.1: the move", b.moves[0].Shares, api.Dec{})
	}
}

// P16.1: where a share is worth less than a coin, as many more are taken, rounded up.
func TestMoveToTheCut(t *testing.T) {
	for _, x := range []struct {
		parts  uint64
		shares string
		took   uint64
	}{
		{5000, "20", 10},
		{3334, "14.893617021276595744680851063829787235", 10}, // 70 shares, 47 tokens
		{9000, "40", 4}, // 7 tokens are left: all of them would take 70 shares, but 40 are there
		{9858, "40", 0}, // 1 token is left, and 40 shares of 70 are less than that
	} {
		s, b := moved(t)
		doParams(s, b, func(p *api.Params) { p.Double = x.parts })
		doFault(t, s, b, double, 17, 6)
		was := b.vals[17].Tokens
		paid, n, e := doFault(t, s, b, down, 16, 4)
		wantErr(t, "P16.1: to one that was cut", e, api.OK)
		left, _ := dec.Sub(dec.Of(40), parsed(t, x.shares))
		wantDec(t, "P16.1: the move's shares", b.moves[0].Shares, left)
		wantDec(t, "P16.1: the delegation's", b.dels[pair{17, 18}].Shares, left)
		wantCoins(t, "P16.1: the coins", n, 15+x.took)
		if len(paid) != 1 || paid[0].Tokens != was-x.took {
			t.Errorf("P16.1: to one that was cut: %v", paid)
		}
	}
}

// P16.1: shares of which all are worth less than a coin go as well, and that is told as paid.
func TestMoveOfNoCoin(t *testing.T) {
	s, b := moved(t)
	doParams(s, b, func(p *api.Params) { p.Double = 9858 })
	doFault(t, s, b, double, 17, 6)
	wantCoins(t, "the tokens that are left", b.vals[17].Tokens, 1)
	paid, n, e := doFault(t, s, b, down, 16, 4)
	wantErr(t, "P16.1: no coin", e, api.OK)
	wantCoins(t, "P16.1: no coin", n, 15)
	wantPaids(t, "P16.1: no coin", paid, []api.Paid{{Val: 17, Del: 18, Shares: dec.Of(30), Tokens: 1}})
}

// P16.1: where 10^-36 shares are worth more than a coin, a coin more may be taken than the part says; the coins that go are those that Take tells.
func TestMoveOfDearShares(t *testing.T) {
	b := newBook()
	b.params = []api.Params{{Max: 2, Unbond: 5, Entries: 2, Down: 5000, Age: 5}}
	b.chain = []api.Chain{{Height: 3, Next: 1}}
	b.mint(loose, 17)
	for id, tokens := range map[uint64]uint64{16: 2, 17: 15} {
		b.vals[id] = api.Validator{Tokens: tokens, Shares: decOf(whole(3)), Period: 2}
		b.dels[pair{id, 18}] = api.Delegation{Shares: decOf(whole(3)), Period: 1, Stake: dec.Of(tokens)}
		b.pasts[place{id, 1}] = past{new(big.Int), 2}
	}
	b.moves[0] = api.Move{Del: 18, Src: 16, Dst: 17, Height: 3, Due: 8, Initial: 4, Shares: decOf(whole(2))}
	s := b.store()
	paid, n, e := doFault(t, s, b, down, 16, 3)
	wantErr(t, "P16.1: dear shares", e, api.OK)
	wantCoins(t, "P16.1: 1 of 2 tokens; 2 of 4 coins take a share of 3, which is worth 5", n, 1+5)
	wantPaids(t, "P16.1: dear shares", paid, []api.Paid{{Val: 17, Del: 18, Left: decOf(whole(2)), Shares: decOf(whole(2)), Tokens: 10}})
}

// P16.1: a move of which nothing is to be cut is left as it is, and nothing is paid.
func TestMoveOfNoPart(t *testing.T) {
	for _, parts := range []uint64{0, 1, 249} {
		s, b := moved(t)
		doParams(s, b, func(p *api.Params) { p.Down = parts })
		period := b.vals[17].Period
		paid, n, e := doFault(t, s, b, down, 16, 4)
		wantErr(t, "P16.1: no part", e, api.OK)
		wantCoins(t, "P16.1: no part", n, part(60, parts))
		wantPaids(t, "P16.1: no part", paid, nil)
		wantCoins(t, "P16.1: no part", b.vals[17].Period, period)
	}
}

// P16.1: entries are gone through by their numbers, and each one meets what the ones ahead of it left: of several moves of one delegator, too.
func TestEntriesInOrder(t *testing.T) {
	s, b := begun()
	doParams(s, b, func(p *api.Params) { p.Double, p.Entries = 10000, 9 })
	doCreate(t, s, b, 16, 0, 100)
	for _, id := range []uint64{18, 17, 19} {
		doCreate(t, s, b, id, 0, 10)
		doDelegate(t, s, b, 16, id, 50)
	}
	doElect(t, s, b)
	doRedelegate(t, s, b, 16, 19, 18, 20)
	doUndelegate(t, s, b, 16, 17, 5)
	doRedelegate(t, s, b, 16, 17, 19, 4)
	doRedelegate(t, s, b, 16, 19, 18, 10)
	doUndelegate(t, s, b, 19, 18, 5)
	doRedelegate(t, s, b, 16, 18, 16, 100)
	doUndelegate(t, s, b, 16, 19, 3)
	paid, n, e := doFault(t, s, b, double, 16, 3)
	wantErr(t, "P16.1: in order", e, api.OK)
	wantCoins(t, "P16.1: in order", n, 108+20+5+4+5+100+3)
	wantPaids(t, "P16.1: in order", paid, []api.Paid{
		{Val: 19, Del: 18, Left: dec.Of(5), Shares: dec.Of(15), Tokens: 15}, {Val: 17, Del: 19, Shares: dec.Of(10), Tokens: 10},
		{Val: 19, Del: 18, Shares: dec.Of(10), Tokens: 10}, {Val: 18, Del: 16, Shares: dec.Of(10), Tokens: 10},
	})
	wantDec(t, "P16.1: what the first move left of the second one", b.moves[3].Shares, dec.Of(5))
}
