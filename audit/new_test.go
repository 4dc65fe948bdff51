package audit_test

import (
	"bytes"
	"testing"

	"glean/api"
	"glean/audit"
	"glean/genesis"
)

// P25.1: what genesis.Make refuses, New refuses by the same error, and there is no audit.
func TestNoBeginning(t *testing.T) {
	good := laid(plain(api.Founder{Op: 16, Tokens: 3}))
	params, account, supply, founder := plain(), plain(), plain(), plain(api.Founder{Op: 16, Tokens: 1001})
	params.Params.Max, params.Accounts[0].Id = 0, 15
	account.Accounts[0].Coins, account.Accounts[1].Coins = 0, api.MaxSupply
	supply.Accounts[0].Coins = api.MaxSupply - 4999
	supply.Vals = []api.Founder{{Op: 17}}
	for what, c := range map[string]struct {
		begin []byte
		want  api.Errno
	}{
		"no bytes":           {nil, 210},
		"none but the mark":  {[]byte("GLN1"), 210},
		"another mark":       {append([]byte("GLN2"), good[4:]...), 210},
		"a byte too few":     {good[:len(good)-1], 210},
		"a byte too many":    {append(bytes.Clone(good), 0), 210},
		"too long":           {make([]byte, 1<<16+1), 211},
		"as long as may be":  {make([]byte, 1<<16), 210},
		"none may be bonded": {laid(params), 212},
		"one without coins":  {laid(account), 213},
		"a coin too many":    {laid(supply), 214},
		"too poor a founder": {laid(founder), 215},
	} {
		a, e := audit.New(c.begin)
		if e != c.want || a != nil {
			t.Errorf("P25.1: %s: %v, %v, not %v", what, a, e, c.want)
		}
	}
}

// P25.1: an audit begins with what genesis.Make tells, and nothing is owed to anybody.
func TestTheBeginning(t *testing.T) {
	most := plain()
	most.Accounts[5].Coins = api.MaxSupply - 5000
	nobody := plain()
	nobody.Accounts = nil
	for what, g := range map[string]api.Genesis{
		"a founder":      plain(api.Founder{Op: 16, Rate: 500, Tokens: 3}),
		"three founders": plain(api.Founder{Op: 16, Tokens: 1000}, api.Founder{Op: 18, Rate: 10000, Tokens: 1}, api.Founder{Op: 21, Tokens: 7}),
		"no founder":     plain(),
		"nobody":         nobody,
		"all coins":      most,
	} {
		a := begun(t, g)
		s, _ := genesis.Make(laid(g))
		if !sameStore(a.Store(), s) {
			t.Errorf("P25.1: %s: another store", what)
		}
		for id := uint64(15); id < 23; id++ {
			wantOwes(t, "P25.1: "+what, a, id, fraction(0, 1))
		}
	}
}

// P25.1: each founder's delegation is held from the beginning on: of the first reward each one is owed what is its own.
func TestFoundersAreHeld(t *testing.T) {
	a := begun(t, plain(api.Founder{Op: 16, Tokens: 7}, api.Founder{Op: 17, Tokens: 11}, api.Founder{Op: 18, Rate: 1000, Tokens: 5}))
	wantAudited(t, "P25.2: a fee alone", block(t, a, tx(21, 0, 23, fund, 0)))
	got := block(t, a, tx(18, 0, 0, withdraw, 18), tx(16, 0, 0, withdraw, 16), tx(17, 0, 0, withdraw, 17))
	wantAudited(t, "P25.1: founders", got,
		api.Audited{Val: 18, Del: 18, W: 4, Q: parsed(t, "0.5"), E: ratOf(fraction(9, 2)), P: 1, Fits: true},
		api.Audited{Val: 16, Del: 16, W: 7, E: ratOf(fraction(7, 1)), P: 1, Fits: true},
		api.Audited{Val: 17, Del: 17, W: 11, E: ratOf(fraction(11, 1)), P: 1, Fits: true},
	)
}

// P25.1: also the most founders that there may be are held, and those who aren't bonded.
func TestManyFounders(t *testing.T) {
	g := plain()
	g.Accounts, g.Params.Max = nil, 63 // the first one has the fewest tokens, and isn't bonded
	for id := uint64(16); id < 80; id++ {
		g.Accounts = append(g.Accounts, api.Purse{Id: id, Coins: 100})
		g.Vals = append(g.Vals, api.Founder{Op: id, Tokens: id - 15})
	}
	g.Accounts = append(g.Accounts, api.Purse{Id: 80, Coins: 3000})
	a := begun(t, g)
	block(t, a, tx(80, 0, 64*65/2-1, fund, 0))
	for id := uint64(16); id < 80; id++ {
		want := fraction(int64(id-15), 1)
		if id == 16 {
			want = fraction(0, 1)
		}
		got := block(t, a, tx(id, 0, 0, withdraw, id))
		wantAudited(t, "P25.1: many founders", got, api.Audited{Val: id, Del: id, W: want.Num().Uint64(), E: ratOf(want), P: 1, Fits: true})
	}
}
