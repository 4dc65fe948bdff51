package slash_test

import (
	"math/big"
	"testing"

	"glean/api"
	"glean/dec"
	"glean/dist"
	"glean/kv"
	"glean/power"
	"glean/slash"
)

// P16.1: the chapter's examples.
func TestExamples(t *testing.T) {
	s, b := begun()
	doCreate(t, s, b, 16, 0, 60)
	doDelegate(t, s, b, 16, 17, 80)
	doElect(t, s, b)
	doHeight(s, b, 5)
	doUndelegate(t, s, b, 16, 17, 40)
	doHeight(s, b, 6)
	paid, n, e := slash.Fault(s, api.FaultDown, 16, 5)
	wantErr(t, "P16.1: FaultDown", e, api.OK)
	wantCoins(t, "P16.1: 5 of 100 tokens, 2 of 40 coins", n, 7)
	wantPaids(t, "P16.1: nothing was taken", paid, nil)
	wantDec(t, "P16.1: the pool", dist.Pool(s), dec.Of(7))
	b.fault(down, 16, 5)
	wantBook(t, "P16.1: FaultDown", s, b)
	if v := b.vals[16]; v.Tokens != 95 || !v.Jailed || v.Until != 13 || !v.Bonded || b.unbondings[0].Balance != 38 {
		t.Errorf("P16.1: FaultDown: %v, %v", v, b.unbondings[0])
	}
	doFees(t, s, b, 18, 95) // 1 a token: 57 for 60, 38 for 40
	withdrawn, e := dist.Withdraw(s, 16, 17)
	wantErr(t, "P14.5: Withdraw", e, api.OK)
	wantCoins(t, "P16.1: the claims go on by 95 of 100", withdrawn.W, 38)
	for i, want := range []api.Errno{api.OK, api.ErrSlashTomb} {
		_, _, e = slash.Fault(s, api.FaultDouble, 16, 5)
		wantErr(t, "P16.1: FaultDouble, twice", e, want)
		if h, there := slash.Tomb(s, 16); h != 5 || !there {
			t.Errorf("P16.1: the tomb behind %d: %d, %t", i, h, there)
		}
	}
}

// P16.1: a tomb tells its height, of its own validator, also when that has ended.
func TestTomb(t *testing.T) {
	s, b := begun()
	for _, id := range numbers() {
		if h, there := slash.Tomb(s, id); h != 0 || there {
			t.Errorf("P16.1: no tomb of %d: %d, %t", id, h, there)
		}
	}
	doParams(s, b, func(p *api.Params) { p.Age = top })
	for i, height := range []uint64{0, 3, 256, 1 << 40, top} {
		id := []uint64{16, 17, 18, 19, top}[i]
		doHeight(s, b, max(3, height))
		doCreate(t, s, b, id, 0, 10)
		if h, there := slash.Tomb(s, id); h != 0 || there {
			t.Errorf("P16.1: no tomb yet of %d: %d, %t", id, h, there)
		}
		doFault(t, s, b, double, id, height)
		if h, there := slash.Tomb(s, id); h != height || !there {
			t.Errorf("P16.1: the tomb of %d: %d, %t, not %d", id, h, there, height)
		}
	}
	doUndelegate(t, s, b, 17, 17, 0)
	if h, there := slash.Tomb(s, 17); h != 3 || !there {
		t.Errorf("P16.1: the tomb of one that has ended: %d, %t", h, there)
	}
	wantBook(t, "P16.1: to ask changes nothing", s, b)
}

// P16.1: a validator that was down has no tomb.
func TestDownLaysNoTomb(t *testing.T) {
	s, b := begun()
	doCreate(t, s, b, 16, 0, 100)
	doFault(t, s, b, down, 16, 3)
	if h, there := slash.Tomb(s, 16); h != 0 || there {
		t.Errorf("P16.1: a tomb of FaultDown: %d, %t", h, there)
	}
}

// P16.1: what is refused, and by which of the errors that apply; then nothing changes.
func TestRefusedFault(t *testing.T) {
	s, b := begun()
	for _, id := range []uint64{16, 17, 18} {
		doCreate(t, s, b, id, 0, 100)
	}
	doElect(t, s, b)
	doHeight(s, b, 20)
	doUndelegate(t, s, b, 16, 16, 10)
	doFault(t, s, b, double, 17, 20)
	doFault(t, s, b, down, 18, 20)
	b.tombs[19] = 3
	b.lay(s)
	for _, x := range []struct {
		kind        int
		val, height uint64
		want        api.Errno
	}{
		{0, 16, 20, api.ErrSlashKind}, {3, 16, 20, api.ErrSlashKind}, {-1, 16, 20, api.ErrSlashKind}, {1 << 40, 17, 20, api.ErrSlashKind},
		{0, 99, 99, api.ErrSlashKind}, {3, 19, 0, api.ErrSlashKind}, {-1 << 63, 0, top, api.ErrSlashKind}, {1<<63 - 1, 18, 20, api.ErrSlashKind},
		{double, 99, 20, api.ErrSlashNone}, {down, 99, 20, api.ErrSlashNone}, {down, 99, 99, api.ErrSlashNone}, {double, 0, 0, api.ErrSlashNone},
		{double, 19, 20, api.ErrSlashNone}, {down, 19, 21, api.ErrSlashNone}, {double, top, 14, api.ErrSlashNone},
		{double, 16, 21, api.ErrSlashTime}, {down, 16, 21, api.ErrSlashTime}, {down, 16, top, api.ErrSlashTime}, {double, 16, 14, api.ErrSlashTime},
		{down, 16, 14, api.ErrSlashTime}, {down, 16, 0, api.ErrSlashTime}, {double, 17, 21, api.ErrSlashTime}, {down, 17, 14, api.ErrSlashTime}, {down, 18, 21, api.ErrSlashTime},
		{double, 17, 20, api.ErrSlashTomb}, {down, 17, 20, api.ErrSlashTomb}, {down, 17, 15, api.ErrSlashTomb},
		{down, 18, 20, api.ErrSlashJail}, {down, 18, 15, api.ErrSlashJail},
	} {
		paid, n, e := slash.Fault(s, x.kind, x.val, x.height)
		wantErr(t, "P16.1: a refused Fault", e, x.want)
		wantCoins(t, "P16.1: a refused Fault", n, 0)
		wantPaids(t, "P16.1: a refused Fault", paid, nil)
		wantBook(t, "P16.1: a refused Fault", s, b)
		wantErr(t, "the other arithmetic", b.refusal(x.kind, x.val, x.height), x.want)
	}
}

// P16.1: how old a fault may be, at the edges.
func TestAge(t *testing.T) {
	for _, x := range []struct {
		now, age, height uint64
		want             api.Errno
	}{
		{20, 5, 15, api.OK}, {20, 5, 14, api.ErrSlashTime}, {20, 5, 20, api.OK}, {20, 5, 21, api.ErrSlashTime},
		{20, 0, 20, api.OK}, {20, 0, 19, api.ErrSlashTime}, {20, 0, 21, api.ErrSlashTime}, {0, 0, 0, api.OK}, {0, 0, 1, api.ErrSlashTime},
		{20, 20, 0, api.OK}, {20, 19, 0, api.ErrSlashTime}, {0, 5, top, api.ErrSlashTime}, {2, top, top, api.ErrSlashTime}, {2, top, 3, api.ErrSlashTime},
		{top, top, 0, api.OK}, {top, top - 1, 0, api.ErrSlashTime}, {top, top - 1, 1, api.OK}, {top, 0, top, api.OK},
	} {
		for _, kind := range []int{double, down} {
			s, b := begun()
			doCreate(t, s, b, 16, 0, 100)
			doHeight(s, b, x.now)
			doParams(s, b, func(p *api.Params) { p.Age = x.age })
			_, _, e := doFault(t, s, b, kind, 16, x.height)
			wantErr(t, "P16.1: the age", e, x.want)
		}
	}
}

// P16.1: without params or a chain record, these are zero: what happens now is a fault, by which nothing is cut.
func TestWithoutParams(t *testing.T) {
	for _, kind := range []int{double, down} {
		b := newBook()
		b.mint(16, 100)
		s := b.store()
		doCreate(t, s, b, 16, 0, 100)
		_, n, e := doFault(t, s, b, kind, 16, 0)
		wantErr(t, "P16.1: without params", e, api.OK)
		wantCoins(t, "P16.1: without params", n, 0)
		if v := b.vals[16]; !v.Jailed || v.Tokens != 100 || (v.Until == top) != (kind == double) {
			t.Errorf("P16.1: without params: %v", v)
		}
	}
}

// P16.1, by hand: all that lies there behind a fault, of a validator that is bonded, and of one that isn't.
func TestStruck(t *testing.T) {
	for _, elected := range []bool{false, true} {
		s, b := begun()
		doCreate(t, s, b, 16, 1000, 100)
		doDelegate(t, s, b, 16, 17, 25)
		home := uint64(loose)
		if elected {
			doElect(t, s, b)
			doFees(t, s, b, 18, 50) // 5 of it is the commission; 0.36 a token
			home = bonded
		}
		was := b.vals[16]
		paid, n, e := slash.Fault(s, api.FaultDouble, 16, 2)
		wantErr(t, "P16.1: by hand", e, api.OK)
		wantCoins(t, "P16.1: a quarter of 125, rounded down", n, 31)
		wantPaids(t, "P16.1: by hand", paid, nil)
		v := api.Validator{
			Rate: 1000, Tokens: 94, Shares: dec.Of(125), Jailed: true, Until: api.Forever, Bonded: elected, Period: 4,
			Outstanding: was.Outstanding, Commission: was.Commission,
		}
		ratio := new(big.Int)
		if elected {
			ratio = value(parsed(t, "0.36"))
		}
		b.vals[16] = v
		b.pasts = map[place]past{{16, 1}: {new(big.Int), 1}, {16, 2}: {new(big.Int), 1}, {16, 3}: {ratio, 2}}
		b.cuts[place{16, 3}] = api.Cut{Before: 125, After: 94}
		b.tombs[16] = 2
		b.purses[home] = api.Account{Coins: 94}
		b.mint(shared, 31)
		b.pour(coins(31))
		wantBook(t, "P16.1: by hand", s, b)
		if got := power.Top(s, 9); len(got) != 0 {
			t.Errorf("P16.1: the index: %v", got)
		}
		if got := power.Bonded(s); (len(got) == 1) != elected {
			t.Errorf("P16.1: it stays bonded till Elect: %v", got)
		}
		doElect(t, s, b)
		if b.vals[16].Bonded || b.purses[loose].Coins != 94 {
			t.Errorf("P16.1: behind Elect: %v, %v", b.vals[16], b.purses[loose])
		}
	}
}

// P16.1: how many coins each kind cuts, at the edges of tokens and parts; what is cut to 0 parts or rounds to 0 closes no period.
func TestParts(t *testing.T) {
	for _, x := range []struct{ tokens, parts, want uint64 }{
		{100, 0, 0}, {100, 1, 0}, {100, 99, 0}, {100, 100, 1}, {100, 500, 5}, {100, 9999, 99}, {100, 10000, 100}, {100, 10001, 100}, {100, top, 100},
		{1, 0, 0}, {1, 1, 0}, {1, 9999, 0}, {1, 10000, 1}, {19, 500, 0}, {20, 500, 1}, {39, 500, 1}, {3, 3333, 0}, {3, 3334, 1},
		{supply, 1, supply / 10000}, {supply, 9999, supply / 10000 * 9999}, {supply - 1, 9999, supply/10000*9999 - 1}, {supply, 10000, supply}, {supply, top, supply},
	} {
		for _, kind := range []int{double, down} {
			b := newBook()
			b.params = []api.Params{{Max: 1, Entries: 1, Double: 77, Down: 78}}
			b.mint(16, x.tokens)
			s := b.store()
			doParams(s, b, func(p *api.Params) {
				if kind == double {
					p.Double = x.parts
				} else {
					p.Down = x.parts
				}
			})
			doCreate(t, s, b, 16, 0, x.tokens)
			doElect(t, s, b)
			_, n, e := doFault(t, s, b, kind, 16, 0)
			wantErr(t, "P16.1: the parts", e, api.OK)
			wantCoins(t, "P16.1: the parts", n, x.want)
			v := b.vals[16]
			wantCoins(t, "P16.1: the tokens that are left", v.Tokens, x.tokens-x.want)
			if closed := v.Period != 2; closed != (x.want > 0) || len(b.cuts) != int(v.Period-2) {
				t.Errorf("P16.1: %d of %d: period %d, %v", x.want, x.tokens, v.Period, b.cuts)
			}
		}
	}
}

// P16.1: till when a fault jails; heights go modulo 2^64.
func TestUntil(t *testing.T) {
	for _, x := range []struct{ now, jail, want uint64 }{
		{3, 7, 10}, {3, 0, 3}, {0, 0, 0}, {0, top, top}, {3, top, 2}, {top, 1, 0}, {1 << 63, 1 << 63, 0},
	} {
		s, b := begun()
		doCreate(t, s, b, 16, 0, 100)
		doCreate(t, s, b, 17, 0, 100)
		doHeight(s, b, x.now)
		doParams(s, b, func(p *api.Params) { p.Jail = x.jail })
		doFault(t, s, b, down, 16, x.now)
		doFault(t, s, b, double, 17, x.now)
		if v, _ := dist.Val(s, 16); v.Until != x.want || !v.Jailed {
			t.Errorf("P16.1: %d and %d: jailed until %d, not %d", x.now, x.jail, v.Until, x.want)
		}
		if v, _ := dist.Val(s, 17); v.Until != api.Forever || !v.Jailed {
			t.Errorf("P16.1: FaultDouble: until %d", v.Until)
		}
	}
}

// P16.1: FaultDouble takes one that is jailed, too, and cuts it once more; it wasn't in the index, and isn't.
func TestDoubleOfTheJailed(t *testing.T) {
	s, b := begun()
	doCreate(t, s, b, 16, 0, 100)
	doCreate(t, s, b, 17, 0, 60)
	doElect(t, s, b)
	doFault(t, s, b, down, 16, 3)
	doFees(t, s, b, 18, 31)
	_, n, e := doFault(t, s, b, double, 16, 3)
	wantErr(t, "P16.1: FaultDouble of a jailed one", e, api.OK)
	wantCoins(t, "P16.1: a quarter of 95", n, 23)
	if v := b.vals[16]; v.Tokens != 72 || v.Until != top || len(b.cuts) != 2 {
		t.Errorf("P16.1: FaultDouble of a jailed one: %v, %v", v, b.cuts)
	}
	if got := power.Top(s, 9); len(got) != 1 || got[0] != 17 {
		t.Errorf("P16.1: the index: %v", got)
	}
}

// P16.1: one that has no token left can be at fault still; nothing of it is cut.
func TestFaultWithoutTokens(t *testing.T) {
	for _, kind := range []int{double, down} {
		s, b := begun()
		doParams(s, b, func(p *api.Params) { p.Down, p.Double, p.Jail = 10000, 10000, 0 })
		doCreate(t, s, b, 16, 0, 100)
		doElect(t, s, b)
		doFees(t, s, b, 18, 10)
		doFault(t, s, b, down, 16, 3)
		wantErr(t, "P16.2: Unjail", doUnjail(t, s, b, 16), api.OK)
		if got := power.Top(s, 9); len(got) != 0 {
			t.Errorf("P16.2: without a token it doesn't stand in the index: %v", got)
		}
		period := b.vals[16].Period
		_, n, e := doFault(t, s, b, kind, 16, 3)
		wantErr(t, "P16.1: without tokens", e, api.OK)
		wantCoins(t, "P16.1: without tokens", n, 0)
		wantCoins(t, "P16.1: without tokens no period is closed", b.vals[16].Period, period)
	}
}

// P16.1, P13.4: what was earned ahead of a cut is claimed by the stake of before it, what was earned behind by the one that is left.
func TestClaimsAlongCuts(t *testing.T) {
	s, b := begun()
	doParams(s, b, func(p *api.Params) { p.Down, p.Jail = 5000, 0 })
	doCreate(t, s, b, 16, 0, 100)
	doDelegate(t, s, b, 16, 17, 300)
	doElect(t, s, b)
	doFees(t, s, b, 18, 40) // 30 are 17's
	for range 2 {
		doFault(t, s, b, down, 16, 3)
		doUnjail(t, s, b, 16)
		doFees(t, s, b, 18, 40)
	}
	paid, e := dist.Withdraw(s, 16, 17)
	wantErr(t, "P14.5: Withdraw", e, api.OK)
	wantCoins(t, "P16.1: along two cuts", paid.W, 90)
	wantCoins(t, "P16.1: half of half of the tokens", paid.Tokens, 100)
}

// cutStore tells a store in which 16 is bonded, with 100 tokens, and 17 has two unbondings and two moves under way from it, of heights 4 and 6, to 18 and 19; height 6.
func cutStore(t *testing.T) (*kv.Store, *book) {
	t.Helper()
	s, b := begun()
	doCreate(t, s, b, 16, 0, 100)
	doCreate(t, s, b, 18, 0, 50)
	doCreate(t, s, b, 19, 0, 30)
	doDelegate(t, s, b, 16, 17, 400)
	doElect(t, s, b)
	for i, height := range []uint64{4, 6} {
		doHeight(s, b, height)
		doUndelegate(t, s, b, 16, 17, 100)
		doRedelegate(t, s, b, 16, []uint64{18, 19}[i], 17, 100)
	}
	return s, b
}

// P16.1: which entries a fault cuts: those that didn't leave below its height, of their own validator.
func TestWhichEntries(t *testing.T) {
	for _, x := range []struct {
		val, height uint64
		balances    [2]uint64
		moved       [2]uint64
		n           uint64
	}{
		{16, 3, [2]uint64{75, 75}, [2]uint64{75, 75}, 125}, {16, 4, [2]uint64{75, 75}, [2]uint64{75, 75}, 125},
		{16, 5, [2]uint64{100, 75}, [2]uint64{100, 75}, 75}, {16, 6, [2]uint64{100, 75}, [2]uint64{100, 75}, 75},
		{18, 4, [2]uint64{100, 100}, [2]uint64{100, 100}, 37}, {19, 4, [2]uint64{100, 100}, [2]uint64{100, 100}, 32},
	} {
		s, b := cutStore(t)
		paid, n, e := doFault(t, s, b, double, x.val, x.height)
		wantErr(t, "P16.1: which entries", e, api.OK)
		wantCoins(t, "P16.1: which entries", n, x.n)
		moved := 0
		for i := range uint64(2) {
			u, m := b.unbondings[2*i], b.moves[2*i+1]
			wantCoins(t, "P16.1: an unbonding's balance", u.Balance, x.balances[i])
			wantCoins(t, "P16.1: what it was", u.Initial, 100)
			wantDec(t, "P16.1: a move's shares", m.Shares, dec.Of(x.moved[i]))
			wantCoins(t, "P16.1: what it was", m.Initial, 100)
			if x.moved[i] < 100 {
				moved++
				wantCoins(t, "P16.1: where it went to", b.vals[m.Dst].Tokens, []uint64{50, 30}[i]+75)
			}
		}
		if len(paid) != moved {
			t.Errorf("P16.1: %d were paid, not %d", len(paid), moved)
		}
	}
}

// P16.1: an unbonding is cut by what it was at first, each time, till nothing is left; it isn't dropped.
func TestUnbondingCutTwice(t *testing.T) {
	s, b := begun()
	doParams(s, b, func(p *api.Params) { p.Down, p.Double, p.Jail = 4000, 4000, 0 })
	doCreate(t, s, b, 16, 0, 100)
	doUndelegate(t, s, b, 16, 16, 41)
	for i, want := range []uint64{25, 9, 0, 0} {
		was := b.unbondings[0].Balance
		tokens := b.vals[16].Tokens
		_, n, e := doFault(t, s, b, []int{down, down, down, double}[i], 16, 3)
		wantErr(t, "P16.1: once more", e, api.OK)
		wantCoins(t, "P16.1: the balance", b.unbondings[0].Balance, want)
		wantCoins(t, "P16.1: the coins", n, was-want+tokens-b.vals[16].Tokens)
		doUnjail(t, s, b, 16)
	}
	doHeight(s, b, 53)
	doMature(t, s, b)
	wantCoins(t, "P16.1: nothing came back", b.purses[16].Coins, 900)
}

// P16.1: what is cut of an unbonding comes from Loose, whether its validator is bonded or not, and has ended or not: then there is no fault.
func TestUnbondingOfTheEnded(t *testing.T) {
	s, b := begun()
	doCreate(t, s, b, 16, 0, 100)
	doUndelegate(t, s, b, 16, 16, 0)
	_, _, e := doFault(t, s, b, double, 16, 3)
	wantErr(t, "P16.1: of one that has ended", e, api.ErrSlashNone)
	doCreate(t, s, b, 16, 0, 10)
	_, n, e := doFault(t, s, b, double, 16, 3)
	wantErr(t, "P16.1: of one that came anew", e, api.OK)
	wantCoins(t, "P16.1: what the first one's time left is cut, too", n, 2+25)
}

// P16.1: coins that come due aren't cut: what matured ahead of the fault is gone.
func TestMaturedAhead(t *testing.T) {
	s, b := begun()
	doParams(s, b, func(p *api.Params) { p.Unbond, p.Age = 2, 9 })
	doCreate(t, s, b, 16, 0, 100)
	doUndelegate(t, s, b, 16, 16, 40)
	doHeight(s, b, 5)
	unmatured, still := s.Copy(), b.copied()
	_, n, _ := doFault(t, unmatured, still, double, 16, 3)
	wantCoins(t, "P16.1: due, and not matured", n, 15+10)
	doMature(t, s, b)
	_, n, _ = doFault(t, s, b, double, 16, 3)
	wantCoins(t, "P16.1: matured", n, 15)
}
