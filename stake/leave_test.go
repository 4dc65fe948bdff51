package stake_test

import (
	"math/big"
	"slices"
	"testing"

	"glean/api"
	"glean/dec"
	"glean/keys"
	"glean/stake"
)

// P15.5, by hand: some shares are taken, then all; the coins stay in the house.
func TestTake(t *testing.T) {
	s, b := begun()
	doCreate(t, s, b, 16, 0, 10)
	doDelegate(t, s, b, 16, 17, 20)
	doElect(t, s, b)
	doFees(t, s, b, 40)
	r, paid, e := stake.Take(s, 16, 17, parsed(t, "7.5"))
	wantErr(t, "P15.5: Take", e, api.OK)
	wantCoins(t, "P15.5: Take", r, 7)
	// A third of 40 coins a token, rounded down, 20 times; 12.5 shares of 22.5 are worth 12.777 .. of 23.
	wantPaid(t, "P15.5: Take", paid, api.Paid{
		Val: 16, Del: 17, W: 26, Q: parsed(t, "0.66666666666666666666666666666666666"), Left: parsed(t, "12.5"), Tokens: 23, Shares: parsed(t, "22.5"),
	})
	b.vals[16] = api.Validator{
		Tokens: 23, Shares: parsed(t, "22.5"), Bonded: true, Period: 4, Outstanding: parsed(t, "13.33333333333333333333333333333333334"),
	}
	b.dels[pair{16, 17}] = api.Delegation{Shares: parsed(t, "12.5"), Period: 3, Stake: parsed(t, "12.777777777777777777777777777777777777")}
	b.pasts = map[place]past{{16, 1}: {new(big.Int), 1}, {16, 3}: {value(parsed(t, "1.333333333333333333333333333333333333")), 2}}
	b.purses[17], b.purses[shared] = api.Account{Coins: 56}, api.Account{Coins: 14}
	b.pool = value(parsed(t, "0.66666666666666666666666666666666666"))
	wantBook(t, "P15.5: behind Take", s, b)
	r, paid, e = stake.Take(s, 16, 17, parsed(t, "12.5"))
	wantErr(t, "P15.5: Take of all", e, api.OK)
	wantCoins(t, "P15.5: Take of all", r, 12)
	wantPaid(t, "P15.5: Take of all", paid, api.Paid{Val: 16, Del: 17, Tokens: 11, Shares: dec.Of(10)})
	delete(b.dels, pair{16, 17})
	v := b.vals[16]
	v.Tokens, v.Shares, v.Period = 11, dec.Of(10), 5
	b.vals[16] = v
	b.pasts = map[place]past{{16, 1}: {new(big.Int), 1}, {16, 4}: {value(parsed(t, "1.333333333333333333333333333333333333")), 1}}
	wantBook(t, "P15.5: nothing of the delegation lies there", s, b)
}

// P15.5: what is refused, and by which of the errors that apply; then nothing changes.
func TestRefusedTake(t *testing.T) {
	s, b := begun()
	doCreate(t, s, b, 16, 0, 10)
	doCreate(t, s, b, 18, 0, 10)
	doDelegate(t, s, b, 16, 17, 20)
	for _, x := range []struct {
		val, del uint64
		x        string
		want     api.Errno
	}{
		{17, 16, "1", api.ErrStakeNone}, {17, 17, "0", api.ErrStakeNone}, {18, 17, "1", api.ErrStakeNone}, {16, 18, "0", api.ErrStakeNone},
		{0, 0, "1", api.ErrStakeNone}, {top, top, "1", api.ErrStakeNone}, {19, 17, "99", api.ErrStakeNone},
		{16, 17, "0", api.ErrStakeZero}, {16, 16, "0", api.ErrStakeZero},
		{16, 17, "20.000000000000000000000000000000000001", api.ErrStakeMuch}, {16, 16, "11", api.ErrStakeMuch}, {16, 16, "30", api.ErrStakeMuch},
	} {
		r, paid, e := stake.Take(s, x.val, x.del, parsed(t, x.x))
		wantErr(t, "P15.5: a refused Take", e, x.want)
		wantCoins(t, "P15.5: a refused Take", r, 0)
		wantPaid(t, "P15.5: a refused Take", paid, api.Paid{})
		wantBook(t, "P15.5: a refused Take", s, b)
	}
	r, paid, e := stake.Take(s, 16, 17, parsed(t, hair))
	wantErr(t, "P15.5: Take of a hair", e, api.OK)
	wantCoins(t, "P15.5: Take of a hair", r, 0)
	wantDec(t, "P15.5: Take of a hair", paid.Left, parsed(t, "19.999999999999999999999999999999999999"))
	b.take(16, 17, big.NewInt(1))
	wantBook(t, "P15.5: Take of a hair", s, b)
}

// P15.5, by hand: the last share: the commission's whole part is paid, the rest goes to the pool, no key is left.
func TestEnd(t *testing.T) {
	for _, x := range []struct {
		fees, whole, w uint64
		q, pool        string
	}{
		{15, 1, 13, "0.5", "1"},          // Commission 1.5
		{9, 0, 8, "0.1", "1"},            // Commission 0.9
		{10, 1, 9, "0", "0"},             // Commission 1: nothing is left
		{99, 9, 89, "0.1", "1"},          // Commission 9.9
		{0, 0, 0, "0", "0"},              // nothing was ever given
		{1000, 100, 900, "0", "0"},       // no places
		{12345, 1234, 11110, "0.5", "1"}, // both have them
	} {
		s, b := begun()
		doCreate(t, s, b, 16, 1000, 10)
		doCreate(t, s, b, 18, 0, 10)
		b.params[0].Max = 1
		b.lay(s)
		doElect(t, s, b)
		doFees(t, s, b, x.fees)
		r, paid, e := stake.Undelegate(s, 16, 16, 0)
		wantErr(t, "P15.5: the last share", e, api.OK)
		wantCoins(t, "P15.5: the last share", r, 10)
		wantPaid(t, "P15.5: the last share", paid, api.Paid{Val: 16, Del: 16, W: x.w, Q: parsed(t, x.q)})
		for k := range s.Prefix(keys.Val(16)) {
			t.Errorf("P15.5, P15.11: %x is left", k)
		}
		delete(b.vals, 16)
		delete(b.dels, pair{16, 16})
		b.pasts = map[place]past{{18, 1}: {new(big.Int), 2}}
		b.pool = value(parsed(t, x.pool))
		b.purses[16] = api.Account{Coins: 90 + x.w + x.whole}
		b.purses[shared] = api.Account{Coins: x.fees - x.w - x.whole}
		b.purses[bonded], b.purses[loose] = api.Account{}, api.Account{Coins: 20}
		b.unbondings[0] = api.Unbonding{Del: 16, Val: 16, Height: 3, Due: 8, Initial: 10, Balance: 10}
		b.chain = []api.Chain{{Height: 3, Next: 1}}
		wantBook(t, "P15.5, P15.11: behind the end", s, b)
	}
}

// P15.5: it ends with its last share, whoever has that; the operator's leaving doesn't end it, cuts and a tomb don't keep it.
func TestEndByAnother(t *testing.T) {
	s, b := begun()
	doCreate(t, s, b, 16, 3333, 10)
	doElect(t, s, b)
	doDelegate(t, s, b, 16, 17, 3)
	doDelegate(t, s, b, 16, 18, 4)
	doFees(t, s, b, 1001)
	doUndelegate(t, s, b, 16, 16, 0)
	if _, there := b.vals[16]; !there {
		t.Fatal("P15.5: it has ended too early")
	}
	doFault(s, b, 16, 3000, false)
	doFees(t, s, b, 77)
	doFault(s, b, 16, 3000, true)
	doUndelegate(t, s, b, 16, 18, 0)
	was := b.purses[16].Coins
	doTake(t, s, b, 16, 17, value(b.dels[pair{16, 17}].Shares))
	if _, there := b.vals[16]; there || b.purses[16].Coins <= was || len(b.tombs) != 1 {
		t.Errorf("P15.5: behind the last share: %v, %d, %v", b.vals, b.purses[16].Coins-was, b.tombs)
	}
	doCreate(t, s, b, 16, 0, 1)
	doElect(t, s, b)
}

// P15.5: a validator without tokens: its shares are worth nothing, and it ends all the same.
func TestEndWithoutTokens(t *testing.T) {
	s, b := begun()
	doCreate(t, s, b, 16, 0, 10)
	doDelegate(t, s, b, 16, 17, 10)
	doElect(t, s, b)
	doFees(t, s, b, 5)
	doFault(s, b, 16, 10000, false)
	doUndelegate(t, s, b, 16, 17, 1)
	doUndelegate(t, s, b, 16, 17, 0)
	doUndelegate(t, s, b, 16, 16, 0)
	if len(b.vals) != 0 || len(b.unbondings) != 0 {
		t.Errorf("P15.5, P15.7: %v, %v", b.vals, b.unbondings)
	}
}

// P15.6, P15.7: what is refused, and by which of the errors that apply; then nothing changes.
func TestRefusedUndelegate(t *testing.T) {
	s, b := begun()
	doCreate(t, s, b, 16, 0, 10)
	doCreate(t, s, b, 18, 0, 10)
	doDelegate(t, s, b, 16, 17, 20)
	doDelegate(t, s, b, 16, 19, 9)
	doUndelegate(t, s, b, 16, 19, 1)
	doRedelegate(t, s, b, 16, 18, 19, 2)
	doFault(s, b, 18, 10000, false)
	for _, x := range []struct {
		val, del, t uint64
		want        api.Errno
	}{
		{17, 16, 1, api.ErrStakeNone}, {18, 17, 0, api.ErrStakeNone}, {16, 18, top, api.ErrStakeNone}, {0, 0, 0, api.ErrStakeNone}, {top, top, 0, api.ErrStakeNone},
		{16, 17, 37, api.ErrShareMuch}, {16, 17, top, api.ErrShareMuch}, {16, 19, 37, api.ErrShareMuch}, {18, 18, 1, api.ErrShareMuch},
		{16, 17, 21, api.ErrStakeMuch}, {16, 17, 36, api.ErrStakeMuch}, {16, 19, 7, api.ErrStakeMuch},
		{16, 19, 6, api.ErrStakeEntries}, {16, 19, 1, api.ErrStakeEntries}, {16, 19, 0, api.ErrStakeEntries},
	} {
		r, paid, e := stake.Undelegate(s, x.val, x.del, x.t)
		wantErr(t, "P15.6, P15.7: a refused Undelegate", e, x.want)
		wantCoins(t, "P15.7: a refused Undelegate", r, 0)
		wantPaid(t, "P15.7: a refused Undelegate", paid, api.Paid{})
		wantBook(t, "P15.7: a refused Undelegate", s, b)
	}
	doUndelegate(t, s, b, 18, 19, 0)
	doUndelegate(t, s, b, 16, 17, 20)
	b.params = nil
	b.lay(s)
	doUndelegate(t, s, b, 16, 16, 1)
	_, _, e := stake.Undelegate(s, 16, 16, 1)
	wantErr(t, "P15.7: without params no entry may be under way", e, api.ErrStakeEntries)
}

// P15.7: how many may be under way: up to one below Entries, of that pair, of both kinds.
func TestEntries(t *testing.T) {
	for _, entries := range []uint64{0, 1, 2, 16, top} {
		s, b := begun()
		b.params[0].Entries = entries
		b.lay(s)
		doCreate(t, s, b, 16, 0, 100)
		doCreate(t, s, b, 17, 0, 50)
		for i := range uint64(20) {
			var e api.Errno
			if i%2 == 0 {
				_, _, e = stake.Undelegate(s, 16, 16, 1)
			} else {
				_, _, e = stake.Redelegate(s, 16, 17, 16, 1)
			}
			want := api.OK
			if i >= entries {
				want = api.ErrStakeEntries
			}
			wantErr(t, "P15.7, P15.8: one more under way", e, want)
		}
		_, _, e := stake.Undelegate(s, 17, 17, 1)
		if (e == api.OK) != (entries > 0) {
			t.Errorf("P15.7: another pair: %v", e)
		}
	}
}

// P15.7: coins go from the house as it was to Loose, and are due by the chain's height and the params' Unbond, modulo 2^64.
func TestUndelegate(t *testing.T) {
	for _, x := range []struct{ height, unbond, due uint64 }{
		{3, 5, 8}, {0, 0, 0}, {7, 0, 7}, {top, 1, 0}, {top - 1, 1, top}, {top, top, top - 1}, {1 << 63, 1 << 63, 0},
	} {
		for _, elected := range []bool{false, true} {
			s, b := begun()
			b.params[0].Unbond = x.unbond
			b.chain = []api.Chain{{Height: x.height, Next: top}}
			b.lay(s)
			doCreate(t, s, b, 16, 0, 10)
			if elected {
				doElect(t, s, b)
			}
			doUndelegate(t, s, b, 16, 16, 4)
			if u := b.unbondings[top]; u != (api.Unbonding{Del: 16, Val: 16, Height: x.height, Due: x.due, Initial: 4, Balance: 4}) {
				t.Fatalf("P15.7: %v", u)
			}
			doUndelegate(t, s, b, 16, 16, 0)
			if u := b.unbondings[0]; u != (api.Unbonding{Del: 16, Val: 16, Height: x.height, Due: x.due, Initial: 6, Balance: 6}) {
				t.Fatalf("P15.7: %v", u)
			}
			wantCoins(t, "P15.10: Loose's coins", b.purses[loose].Coins, 10)
		}
	}
}

// P15.7: shares that are worth less than a coin are gone, and nothing is under way for them.
func TestUndelegateOfNothing(t *testing.T) {
	s, b := begun()
	doCreate(t, s, b, 16, 0, 9)
	doDelegate(t, s, b, 16, 17, 1)
	doFault(s, b, 16, 5000, false)
	r, paid, e := stake.Undelegate(s, 16, 17, 0)
	wantErr(t, "P15.7: half a coin", e, api.OK)
	wantCoins(t, "P15.7: half a coin", r, 0)
	wantPaid(t, "P15.7: half a coin", paid, api.Paid{Val: 16, Del: 17, Tokens: 5, Shares: dec.Of(9)})
	b.undelegate(16, 17, 0)
	wantBook(t, "P15.7: half a coin", s, b)
	if len(b.unbondings) != 0 || b.chain[0].Next != 0 {
		t.Errorf("P15.7: %v, %v", b.unbondings, b.chain)
	}
}

// P15.6, P15.12: where a coin is worth less than a hair of a share, more may come back than was wished for.
func TestMoreThanWished(t *testing.T) {
	s, b := thin(t, 5, hair)
	r, _, e := stake.Undelegate(s, 16, 16, 1)
	wantErr(t, "P15.6: a hair", e, api.OK)
	wantCoins(t, "P15.12: a hair", r, 5)
	b.undelegate(16, 16, 1)
	wantBook(t, "P15.6: a hair", s, b)
	s, b = thin(t, 10, "0.000000000000000000000000000000000004")
	r, _, e = stake.Undelegate(s, 16, 16, 3)
	wantErr(t, "P15.6: two of four hairs", e, api.OK)
	wantCoins(t, "P15.12: two of four hairs", r, 5)
	b.undelegate(16, 16, 3)
	wantBook(t, "P15.6: two of four hairs", s, b)
}

// P15.8, by hand: from one house to the other; both are paid.
func TestRedelegate(t *testing.T) {
	s, b := begun()
	doCreate(t, s, b, 16, 1000, 10)
	doDelegate(t, s, b, 16, 19, 6)
	doElect(t, s, b)
	doCreate(t, s, b, 18, 0, 8)
	doFees(t, s, b, 50) // of 45 each token gets 2.8125
	r, paid, e := stake.Redelegate(s, 16, 18, 19, 4)
	wantErr(t, "P15.8: Redelegate", e, api.OK)
	wantCoins(t, "P15.8: Redelegate", r, 4)
	want := []api.Paid{
		{Val: 16, Del: 19, W: 16, Q: parsed(t, "0.875"), Left: dec.Of(2), Tokens: 12, Shares: dec.Of(12)},
		{Val: 18, Del: 19, Left: dec.Of(4), Tokens: 12, Shares: dec.Of(12)},
	}
	if !slices.EqualFunc(paid, want, samePaid) {
		t.Fatalf("P15.8: %v, not %v", paid, want)
	}
	b.redelegate(16, 18, 19, 4)
	wantBook(t, "P15.8: behind Redelegate", s, b)
	wantCoins(t, "P15.10: Bonded's coins", b.purses[bonded].Coins, 12)
	wantCoins(t, "P15.10: Loose's coins", b.purses[loose].Coins, 12)
	m := b.moves[0]
	wantDec(t, "P15.8: the move's shares", m.Shares, dec.Of(4))
	if m.Del != 19 || m.Src != 16 || m.Dst != 18 || m.Height != 3 || m.Due != 8 || m.Initial != 4 {
		t.Errorf("P15.8: %v", m)
	}
	doElect(t, s, b)
	doFees(t, s, b, 24)
	doRedelegate(t, s, b, 16, 18, 19, 0)
	doRedelegate(t, s, b, 18, 16, 19, 5)
	doFault(s, b, 18, 3333, false)
	doRedelegate(t, s, b, 18, 16, 19, 1)
	doFees(t, s, b, 100)
	doRedelegate(t, s, b, 18, 16, 18, 0)
}

// P15.8: the last share may go to another one, too.
func TestRedelegateTheLastShare(t *testing.T) {
	s, b := begun()
	doCreate(t, s, b, 16, 1000, 10)
	doElect(t, s, b)
	doCreate(t, s, b, 18, 0, 8)
	doFees(t, s, b, 15)
	r, paid, e := stake.Redelegate(s, 16, 18, 16, 0)
	wantErr(t, "P15.8: the last share", e, api.OK)
	wantCoins(t, "P15.8: the last share", r, 10)
	want := []api.Paid{
		{Val: 16, Del: 16, W: 13, Q: parsed(t, "0.5")},
		{Val: 18, Del: 16, Left: dec.Of(10), Tokens: 18, Shares: dec.Of(18)},
	}
	if !slices.EqualFunc(paid, want, samePaid) {
		t.Fatalf("P15.8: %v, not %v", paid, want)
	}
	b.redelegate(16, 18, 16, 0)
	wantBook(t, "P15.8: the last share", s, b)
	wantCoins(t, "P15.5: the commission was paid", b.purses[16].Coins, 104)
	wantCoins(t, "P15.10: Bonded's coins", b.purses[bonded].Coins, 0)
}

// moving tells a store for what P15.8 refuses: 19 stands behind 16 with 9 coins, cut by half; 17 has no tokens; 18 has the tokens and shares that are handed in.
func moving(t *testing.T, tokens uint64, shares string) (*book, func(src, dst, del, n uint64, want api.Errno)) {
	t.Helper()
	s, b := begun()
	doCreate(t, s, b, 16, 0, 91)
	doDelegate(t, s, b, 16, 19, 9)
	doElect(t, s, b)
	doFees(t, s, b, 30)
	doFault(s, b, 16, 5000, false)
	doCreate(t, s, b, 17, 0, 5)
	doFault(s, b, 17, 10000, false)
	doCreate(t, s, b, 18, 0, 1)
	v, d := b.vals[18], b.dels[pair{18, 18}]
	b.mint(loose, tokens-v.Tokens)
	v.Tokens, v.Shares = tokens, parsed(t, shares)
	d.Shares, d.Stake = v.Shares, dec.Of(tokens)
	b.vals[18], b.dels[pair{18, 18}] = v, d
	b.lay(s)
	return b, func(src, dst, del, n uint64, want api.Errno) {
		t.Helper()
		r, paid, e := stake.Redelegate(s, src, dst, del, n)
		wantErr(t, "P15.8: a refused Redelegate", e, want)
		if r != 0 || len(paid) != 0 {
			t.Errorf("P15.8: a refused Redelegate: %d, %v", r, paid)
		}
		wantBook(t, "P15.8: a refused Redelegate", s, b)
		if s.Depth() != 0 {
			t.Errorf("P15.8: %d journals are under way", s.Depth())
		}
	}
}

// P15.8: what is refused, and by which of the errors that apply; then nothing changes, though shares were taken already.
func TestRefusedRedelegate(t *testing.T) {
	const many = "1000000000000000000000000000000000000000000000000000000" // 10^54
	b, refused := moving(t, 1, "1")
	for _, x := range []struct {
		src, dst, del, t uint64
		want             api.Errno
	}{
		{16, 16, 19, 1, api.ErrStakeSelf}, {99, 99, 99, 0, api.ErrStakeSelf}, {0, 0, 0, top, api.ErrStakeSelf},
		{99, 18, 19, 1, api.ErrStakeNone}, {16, 18, 17, 1, api.ErrStakeNone}, {16, 99, 19, 1, api.ErrStakeNone}, {16, 99, 19, top, api.ErrStakeNone},
		{17, 18, 19, 0, api.ErrStakeNone}, {18, 99, 18, top, api.ErrStakeNone}, {0, 1, 2, 3, api.ErrStakeNone},
		{16, 18, 19, 51, api.ErrShareMuch}, {17, 18, 17, 1, api.ErrShareMuch}, {16, 17, 19, top, api.ErrShareMuch},
		{16, 18, 19, 5, api.ErrStakeMuch}, {16, 17, 19, 50, api.ErrStakeMuch},
		{17, 18, 17, 0, api.ErrStakeZero}, {17, 16, 17, 0, api.ErrStakeZero},
		{16, 17, 19, 4, api.ErrShareDead}, {16, 17, 19, 0, api.ErrShareDead}, {18, 17, 18, 0, api.ErrShareDead},
	} {
		refused(x.src, x.dst, x.del, x.t, x.want)
	}
	if !b.vals[16].Bonded || b.vals[18].Bonded {
		t.Errorf("P15.8: both houses are wanted: %v", b.vals)
	}
	_, refused = moving(t, 5, hair)
	refused(16, 18, 19, 4, api.ErrShareSmall)
	refused(16, 18, 19, 0, api.ErrShareSmall)
	_, refused = moving(t, 1, many)
	refused(16, 18, 19, 1, api.ErrShareBig)
	refused(16, 18, 19, 0, api.ErrShareBig)
}

// P15.8: too many under way is told ahead of what Take and Issue refuse, and behind a wish that can't be.
func TestRefusedByEntries(t *testing.T) {
	s, b := begun()
	doCreate(t, s, b, 16, 0, 10)
	doCreate(t, s, b, 17, 0, 5)
	doFault(s, b, 17, 10000, false)
	b.params[0].Entries = 0
	b.lay(s)
	for _, x := range []struct {
		src, dst, del, t uint64
		want             api.Errno
	}{
		{16, 17, 16, 1, api.ErrStakeEntries}, {16, 17, 16, 0, api.ErrStakeEntries}, {17, 16, 17, 0, api.ErrStakeEntries},
		{17, 16, 17, 1, api.ErrShareMuch}, {16, 17, 16, 11, api.ErrShareMuch}, {16, 17, 17, 1, api.ErrStakeNone}, {16, 16, 16, 1, api.ErrStakeSelf},
	} {
		_, _, e := stake.Redelegate(s, x.src, x.dst, x.del, x.t)
		wantErr(t, "P15.8: too many under way", e, x.want)
		wantBook(t, "P15.8: too many under way", s, b)
	}
}
