package stake_test

import (
	"math/big"
	"testing"

	"glean/api"
	"glean/dec"
	"glean/kv"
	"glean/stake"
)

// P15.1: what was laid is told, under its key alone; zero, if nothing lies there.
func TestParamsAndChain(t *testing.T) {
	s, b := kv.New(), newBook()
	if p, c := stake.Params(s), stake.Chain(s); p != (api.Params{}) || c != (api.Chain{}) {
		t.Errorf("P15.1: nothing lies there: %v, %v", p, c)
	}
	wantBook(t, "P15.1: to ask lays nothing", s, b)
	for i, n := range numbers() {
		p := api.Params{Max: n, Unbond: n + 1, Entries: n + 2, Tax: n + 3, Double: n + 4, Down: n + 5, Jail: n + 6, Age: n + 7, Fee: n + 8, Keeper: n + 9}
		c := api.Chain{Height: n + 10, Next: n + 11}
		if i%2 == 0 {
			stake.SetParams(s, p)
			b.params = []api.Params{p}
			wantBook(t, "P15.1: SetParams", s, b)
		}
		stake.SetChain(s, c)
		b.chain = []api.Chain{c}
		wantBook(t, "P15.1: SetChain", s, b)
		if got := stake.Chain(s); got != c {
			t.Errorf("P15.1: Chain: %v, not %v", got, c)
		}
		if got := stake.Params(s); got != b.params[0] {
			t.Errorf("P15.1: Params: %v, not %v", got, b.params[0])
		}
	}
	stake.SetParams(s, api.Params{})
	stake.SetChain(s, api.Chain{})
	b.params, b.chain = []api.Params{{}}, []api.Chain{{}}
	wantBook(t, "P15.1: zeros are laid, too", s, b)
}

// P15.1 to P15.8: the chapter's examples.
func TestExamples(t *testing.T) {
	s, b := begun()
	b.purses[17] = api.Account{Coins: 5}
	b.lay(s)
	z, e := stake.Create(s, 16, 0, 10)
	wantErr(t, "P15.3: Create(16, 0, 10)", e, api.OK)
	wantDec(t, "P15.3: Create(16, 0, 10)", z, dec.Of(10))
	z, paid, e := stake.Delegate(s, 16, 17, 5)
	wantErr(t, "P15.4: Delegate(16, 17, 5)", e, api.OK)
	wantDec(t, "P15.4: Delegate(16, 17, 5)", z, dec.Of(5))
	wantPaid(t, "P15.4: Delegate(16, 17, 5)", paid, api.Paid{Val: 16, Del: 17, Left: dec.Of(5), Tokens: 15, Shares: dec.Of(15)})
	for i, n := range []uint64{2, 0} {
		r, _, e := stake.Undelegate(s, 16, 17, n)
		wantErr(t, "P15.7: Undelegate", e, api.OK)
		wantCoins(t, "P15.7: Undelegate", r, []uint64{2, 3}[i])
	}
	_, e = stake.Create(s, 16, 0, 1)
	wantErr(t, "P15.3: Create again", e, api.ErrStakeTwice)
	_, _, e = stake.Redelegate(s, 16, 16, 17, 1)
	wantErr(t, "P15.8: Redelegate(16, 16, ..)", e, api.ErrStakeSelf)
	b.create(16, 0, 10)
	b.delegate(16, 17, 5)
	b.undelegate(16, 17, 2)
	b.undelegate(16, 17, 0)
	wantBook(t, "the chapter's examples", s, b)
	if u := b.unbondings[0]; u != (api.Unbonding{Del: 17, Val: 16, Height: 3, Due: 8, Initial: 2, Balance: 2}) {
		t.Errorf("P15.7: %v", u)
	}
}

// P15.2, P15.3, by hand: what lies there behind Create.
func TestCreate(t *testing.T) {
	s, b := begun()
	z, e := stake.Create(s, 16, 10000, 100)
	wantErr(t, "P15.3: Create", e, api.OK)
	wantDec(t, "P15.3: Create", z, dec.Of(100))
	b.purses[16], b.purses[loose] = api.Account{}, api.Account{Coins: 100}
	b.vals[16] = api.Validator{Rate: 10000, Tokens: 100, Shares: dec.Of(100), Period: 2}
	b.dels[pair{16, 16}] = api.Delegation{Shares: dec.Of(100), Period: 1, Stake: dec.Of(100)}
	b.pasts[place{16, 1}] = past{new(big.Int), 2}
	wantBook(t, "P15.2, P15.3: behind Create", s, b)
	z, e = stake.Create(s, top, 0, 1)
	wantErr(t, "P15.3: Create", e, api.OK)
	wantDec(t, "P15.3: Create", z, dec.Of(1))
	b.purses[top], b.purses[loose] = api.Account{Coins: 29}, api.Account{Coins: 101}
	b.vals[top] = api.Validator{Tokens: 1, Shares: dec.Of(1), Period: 2}
	b.dels[pair{top, top}] = api.Delegation{Shares: dec.Of(1), Period: 1, Stake: dec.Of(1)}
	b.pasts[place{top, 1}] = past{new(big.Int), 2}
	wantBook(t, "P15.2, P15.3: behind a second Create", s, b)
}

// P15.3: what is refused, and by which of the errors that apply; then nothing changes.
func TestRefusedCreate(t *testing.T) {
	s, b := begun()
	doCreate(t, s, b, 16, 0, 10)
	doCreate(t, s, b, 18, 0, 10)
	doFault(s, b, 18, 10000, true)
	b.tombs[17], b.tombs[100] = 0, top
	b.lay(s)
	for _, x := range []struct {
		op, rate, t uint64
		want        api.Errno
	}{
		{16, 0, 5, api.ErrStakeTwice}, {16, 10001, 0, api.ErrStakeTwice}, {16, 0, top, api.ErrStakeTwice}, {18, 10001, 0, api.ErrStakeTwice},
		{17, 0, 5, api.ErrStakeTomb}, {17, 10001, 0, api.ErrStakeTomb}, {100, 0, 1, api.ErrStakeTomb},
		{19, 10001, 5, api.ErrStakeRate}, {19, 10001, 0, api.ErrStakeRate}, {19, top, top, api.ErrStakeRate}, {0, 10001, 0, api.ErrStakeRate},
		{19, 0, 0, api.ErrStakeZero}, {19, 10000, 0, api.ErrStakeZero}, {5, 0, 0, api.ErrStakeZero}, {200, 0, 0, api.ErrStakeZero},
		{19, 0, 11, api.ErrBankShort}, {19, 0, top, api.ErrBankShort}, {200, 0, 1, api.ErrBankShort},
		{0, 0, 1, api.ErrBankId}, {5, 0, 1, api.ErrBankId}, {15, 10000, top, api.ErrBankId},
	} {
		z, e := stake.Create(s, x.op, x.rate, x.t)
		wantErr(t, "P15.3: a refused Create", e, x.want)
		wantDec(t, "P15.3: a refused Create", z, api.Dec{})
		wantBook(t, "P15.3: a refused Create", s, b)
	}
	if n := s.Depth(); n != 0 {
		t.Errorf("P15.3: %d journals are under way", n)
	}
}

// P15.3: all coins that there can be.
func TestCreateOfAll(t *testing.T) {
	b := newBook()
	b.mint(16, supply)
	s := b.store()
	doCreate(t, s, b, 16, 1, supply)
	b.params = []api.Params{{Max: 1, Entries: 1}}
	b.lay(s)
	doElect(t, s, b)
	wantCoins(t, "P15.9: Bonded's coins", b.purses[bonded].Coins, supply)
	doUndelegate(t, s, b, 16, 16, supply)
	doMature(t, s, b)
	wantCoins(t, "P15.9: all came back", b.purses[16].Coins, supply)
	if len(b.laid()) != 3 {
		t.Errorf("P15.11: more than the params, the chain and an account lie there: %x", b.laid())
	}
}

// P15.3, P15.5: one that has ended may be created anew, and nothing of the first one shows.
func TestCreateAnew(t *testing.T) {
	s, b := begun()
	doCreate(t, s, b, 16, 500, 10)
	doElect(t, s, b)
	doFees(t, s, b, 9)
	doFault(s, b, 16, 1, false)
	doUndelegate(t, s, b, 16, 16, 0)
	doCreate(t, s, b, 16, 7, 3)
	if v := b.vals[16]; v.Rate != 7 || v.Jailed || v.Bonded || v.Until != 0 || v.Period != 2 || v.Tokens != 3 {
		t.Errorf("P15.3: anew: %v", v)
	}
}

// P15.4, P15.2, by hand: a first delegation, and one more to it, which is paid ahead.
func TestDelegate(t *testing.T) {
	s, b := begun()
	doCreate(t, s, b, 16, 1000, 10)
	doElect(t, s, b)
	doDelegate(t, s, b, 16, 17, 5)
	doFees(t, s, b, 31) // 3.1 of it is the commission; of 27.9 each token gets 1.86
	z, paid, e := stake.Delegate(s, 16, 17, 1)
	wantErr(t, "P15.4: Delegate", e, api.OK)
	wantDec(t, "P15.4: Delegate", z, dec.Of(1))
	wantPaid(t, "P15.2: what was paid", paid, api.Paid{Val: 16, Del: 17, W: 9, Q: parsed(t, "0.3"), Left: dec.Of(6), Tokens: 16, Shares: dec.Of(16)})
	b.vals[16] = api.Validator{
		Rate: 1000, Tokens: 16, Shares: dec.Of(16), Bonded: true, Period: 4, Outstanding: parsed(t, "21.7"), Commission: parsed(t, "3.1"),
	}
	b.dels[pair{16, 17}] = api.Delegation{Shares: dec.Of(6), Period: 3, Stake: dec.Of(6)}
	b.pasts = map[place]past{{16, 1}: {new(big.Int), 1}, {16, 3}: {value(parsed(t, "1.86")), 2}}
	b.purses[17], b.purses[bonded], b.purses[shared] = api.Account{Coins: 53}, api.Account{Coins: 16}, api.Account{Coins: 22}
	b.pool = value(parsed(t, "0.3"))
	wantBook(t, "P15.2, P15.4: behind Delegate", s, b)
	z, paid, e = stake.Delegate(s, 16, 18, 2)
	wantErr(t, "P15.4: Delegate", e, api.OK)
	wantDec(t, "P15.4: Delegate", z, dec.Of(2))
	wantPaid(t, "P15.2: what was paid to who had nothing", paid, api.Paid{Val: 16, Del: 18, Left: dec.Of(2), Tokens: 18, Shares: dec.Of(18)})
	b.delegate(16, 18, 2)
	wantBook(t, "P15.2, P15.4: behind a first Delegate", s, b)
}

// P15.4: shares are issued by what a token is worth behind cuts; coins go to the house that there is.
func TestDelegateBehindCuts(t *testing.T) {
	s, b := begun()
	doCreate(t, s, b, 16, 0, 30)
	doFault(s, b, 16, 4334, false) // 17 tokens, 30 shares
	z, paid, e := stake.Delegate(s, 16, 17, 7)
	wantErr(t, "P15.4: behind a cut", e, api.OK)
	wantDec(t, "P15.4: behind a cut", z, parsed(t, "12.352941176470588235294117647058823529"))
	wantPaid(t, "P15.4: behind a cut", paid, api.Paid{
		Val: 16, Del: 17, Left: z, Tokens: 24, Shares: parsed(t, "42.352941176470588235294117647058823529"),
	})
	b.delegate(16, 17, 7)
	wantBook(t, "P15.4: behind a cut, jailed", s, b)
	wantCoins(t, "P15.10: Loose's coins", b.purses[loose].Coins, 24)
	b.unjail(16)
	b.lay(s)
	doElect(t, s, b)
	doDelegate(t, s, b, 16, 17, 1)
	wantCoins(t, "P15.10: Bonded's coins", b.purses[bonded].Coins, 25)
}

// thin tells a store in which validator 16 has so many tokens, and so many shares, all of them its own; 17 has 50 coins.
func thin(t *testing.T, tokens uint64, shares string) (*kv.Store, *book) {
	t.Helper()
	b := newBook()
	b.params = []api.Params{{Max: 2, Unbond: 5, Entries: 2}}
	b.mint(loose, tokens)
	b.mint(17, 50)
	b.vals[16] = api.Validator{Rate: 5, Tokens: tokens, Shares: parsed(t, shares), Period: 2}
	worth := low(value(parsed(t, shares)), coins(tokens), value(parsed(t, shares)))
	b.dels[pair{16, 16}] = api.Delegation{Shares: parsed(t, shares), Period: 1, Stake: decOf(worth)}
	b.pasts[place{16, 1}] = past{new(big.Int), 2}
	return b.store(), b
}

// P15.4: what is refused, and by which of the errors that apply; then nothing changes.
func TestRefusedDelegate(t *testing.T) {
	const many = "1000000000000000000000000000000000000000000000000000000" // 10^54
	for _, x := range []struct {
		tokens      uint64
		shares      string
		val, del, t uint64
		want        api.Errno
	}{
		{10, "10", 18, 17, 1, api.ErrStakeNone}, {10, "10", 17, 16, 0, api.ErrStakeNone}, {10, "10", 0, 0, 0, api.ErrStakeNone},
		{10, "10", 16, 17, 0, api.ErrStakeZero}, {0, "10", 16, 17, 0, api.ErrStakeZero}, {10, "10", 16, 5, 0, api.ErrStakeZero},
		{0, "10", 16, 17, 1, api.ErrShareDead}, {0, "10", 16, 5, 1, api.ErrShareDead}, {0, "10", 16, 17, 51, api.ErrShareDead},
		{5, hair, 16, 17, 4, api.ErrShareSmall}, {60, hair, 16, 17, 51, api.ErrShareSmall}, {5, hair, 16, 5, 4, api.ErrShareSmall},
		{1, many, 16, 17, 1, api.ErrShareBig}, {1, many, 16, 17, 51, api.ErrShareBig}, {1, many, 16, 5, 1, api.ErrShareBig},
		{10, "10", 16, 17, 51, api.ErrBankShort}, {10, "10", 16, 20, 1, api.ErrBankShort}, {10, "10", 16, 17, top, api.ErrBankShort},
		{10, "10", 16, 5, 1, api.ErrBankId}, {10, "10", 16, 0, top, api.ErrBankId}, {10, "10", 16, 15, 1, api.ErrBankId},
	} {
		s, b := thin(t, x.tokens, x.shares)
		z, paid, e := stake.Delegate(s, x.val, x.del, x.t)
		wantErr(t, "P15.4: a refused Delegate", e, x.want)
		wantDec(t, "P15.4: a refused Delegate", z, api.Dec{})
		wantPaid(t, "P15.4: a refused Delegate", paid, api.Paid{})
		wantBook(t, "P15.4: a refused Delegate", s, b)
	}
	s, b := thin(t, 5, hair)
	doDelegate(t, s, b, 16, 17, 5)
	s, b = thin(t, 2, "500000000000000000000000000000000000000000000000000000")
	doDelegate(t, s, b, 16, 17, 2)
	if got := b.vals[16].Shares; dec.Text(got) != many {
		t.Errorf("P15.11: %s shares, not 10^54", dec.Text(got))
	}
	doDelegate(t, s, b, 16, 17, 1)
}

// P15.2: what closing tells goes to the pool: of a validator without tokens all that it was given since.
func TestDelegateToNobody(t *testing.T) {
	s, b := begun()
	b.vals[18] = api.Validator{Rate: 5, Period: 7, Current: parsed(t, "5.5"), Outstanding: dec.Of(7), Commission: dec.Of(1)}
	b.pasts[place{18, 6}] = past{value(dec.Of(3)), 1}
	b.mint(shared, 7)
	b.lay(s)
	doDelegate(t, s, b, 18, 17, 4)
	wantDec(t, "P15.2: the pool", decOf(b.pool), parsed(t, "5.5"))
	wantDec(t, "P15.2: what is outstanding", b.vals[18].Outstanding, parsed(t, "1.5"))
}
