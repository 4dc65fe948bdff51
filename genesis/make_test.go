package genesis_test

import (
	"math/rand"
	"slices"
	"testing"

	"glean/api"
	"glean/bank"
	"glean/dist"
	"glean/genesis"
	"glean/power"
	"glean/stake"
)

// change: how a genesis is changed, and what Make answers of it.
type change struct {
	what string
	how  func(*api.Genesis)
	want api.Errno
}

// wantFaults fails unless Make answers, of the chapter's example with each change, what the chapter says.
func wantFaults(t *testing.T, changes []change) {
	t.Helper()
	for _, c := range changes {
		g := first()
		c.how(&g)
		wantFault(t, c.what, spelt(g), c.want)
		if c.want == api.OK {
			wantMade(t, g)
		}
	}
}

// accounts tells a change: these accounts alone.
func accounts(all ...api.Purse) func(*api.Genesis) {
	return func(g *api.Genesis) { g.Accounts, g.Vals = all, nil }
}

// founders tells a change: these validators, with 100 coins of each of 16 to 19, and of the greatest id.
func founders(all ...api.Founder) func(*api.Genesis) {
	return func(g *api.Genesis) {
		g.Accounts = []api.Purse{{Id: 16, Coins: 100}, {Id: 17, Coins: 100}, {Id: 18, Coins: 100}, {Id: 19, Coins: 100}, {Id: top, Coins: 100}}
		g.Vals = all
	}
}

// P21.3: the chapter's examples.
func TestMakeByHand(t *testing.T) {
	s := made(t, first())
	if l, b, a := bank.Get(s, api.Loose).Coins, bank.Get(s, api.Bonded).Coins, bank.Get(s, 16); l != 0 || b != 10 || a != (api.Account{Coins: 90}) {
		t.Errorf("P21.3: Loose %d, Bonded %d, 16 %v", l, b, a)
	}
	if c := stake.Chain(s); c != (api.Chain{Height: 0, Next: 1}) {
		t.Errorf("P21.3: the chain %v", c)
	}
	if p := stake.Params(s); p != first().Params {
		t.Errorf("P21.3: the params %v", p)
	}
	if v, there := dist.Val(s, 16); !there || v.Rate != 500 || v.Tokens != 10 || !v.Bonded || v.Jailed || v.Period != 2 {
		t.Errorf("P21.3: the validator %v, %t", v, there)
	}
	wantMade(t, first())
	wantFaults(t, []change{
		{"a founder without an account", func(g *api.Genesis) { g.Vals = []api.Founder{{Op: 17, Rate: 0, Tokens: 1}} }, api.ErrGenVal},
		{"two accounts 16", func(g *api.Genesis) { g.Accounts = append(g.Accounts, g.Accounts[0]) }, api.ErrGenAccount},
	})
}

// P21.3: nothing at all is a beginning, with params alone.
func TestMakeOfNobody(t *testing.T) {
	for _, g := range []api.Genesis{many(0, 0), many(1, 0), many(256, 0)} {
		wantMade(t, g)
	}
	if n := len(made(t, many(0, 0)).Dump()); n != 2 {
		t.Errorf("P21.3: %d entries of nobody", n)
	}
}

// P21.3: Decode's errors come first, whatever else is wrong.
func TestMakeOfNoGenesis(t *testing.T) {
	b := spelt(first())
	for n := range b {
		wantFault(t, "too few bytes", b[:n], api.ErrGenForm)
	}
	wantFault(t, "no bytes", nil, api.ErrGenForm)
	wantFault(t, "one more", append(slices.Clone(b), 0), api.ErrGenForm)
	wantFault(t, "one too many of nothing", spelt(api.Genesis{Vals: make([]api.Founder, 65)}), api.ErrGenForm)
	wantFault(t, "as many as may be of nothing", spelt(api.Genesis{Vals: make([]api.Founder, 64)}), api.ErrGenParams)
	wantFault(t, "too long", make([]byte, api.MaxGenesis+1), api.ErrGenLong)
}

// P21.3: each param at its bounds, and one past them.
func TestMakeParams(t *testing.T) {
	for i, bounds := range [][2]uint64{{1, 64}, {1, 100000}, {1, 16}, {0, 10000}, {0, 10000}, {0, 10000}, {0, 100000}, {0, 100000}, {0, 1000000000}, {16, top}} {
		for _, x := range []uint64{bounds[0], bounds[1], bounds[0] - 1, bounds[1] + 1, 0, top} {
			g := first()
			*fieldsOf(&g.Params)[i] = x
			want := api.OK
			if x < bounds[0] || x > bounds[1] {
				want = api.ErrGenParams
			}
			wantFault(t, "a param", spelt(g), want)
			if want == api.OK {
				wantMade(t, g)
			}
		}
	}
}

// P21.3: accounts are users', rise, and have coins.
func TestMakeAccounts(t *testing.T) {
	wantFaults(t, []change{
		{"the first user", accounts(api.Purse{Id: 16, Coins: 1}), api.OK},
		{"the last user", accounts(api.Purse{Id: top, Coins: 1}), api.OK},
		{"the first and the last", accounts(api.Purse{Id: 16, Coins: 1}, api.Purse{Id: top, Coins: 1}), api.OK},
		{"15", accounts(api.Purse{Id: 15, Coins: 1}), api.ErrGenAccount},
		{"0", accounts(api.Purse{Id: 0, Coins: 1}), api.ErrGenAccount},
		{"Collector", accounts(api.Purse{Id: 1, Coins: 1}), api.ErrGenAccount},
		{"Shared", accounts(api.Purse{Id: 4, Coins: 1}, api.Purse{Id: 16, Coins: 1}), api.ErrGenAccount},
		{"Shared, later", accounts(api.Purse{Id: 16, Coins: 1}, api.Purse{Id: 4, Coins: 1}), api.ErrGenAccount},
		{"falling", accounts(api.Purse{Id: 17, Coins: 1}, api.Purse{Id: 16, Coins: 1}), api.ErrGenAccount},
		{"falling at the end", accounts(api.Purse{Id: 16, Coins: 1}, api.Purse{Id: 20, Coins: 1}, api.Purse{Id: 19, Coins: 1}), api.ErrGenAccount},
		{"twice, not side by side", accounts(api.Purse{Id: 16, Coins: 1}, api.Purse{Id: 17, Coins: 1}, api.Purse{Id: 16, Coins: 1}), api.ErrGenAccount},
		{"the last twice", accounts(api.Purse{Id: top, Coins: 1}, api.Purse{Id: top, Coins: 1}), api.ErrGenAccount},
		{"behind the last", accounts(api.Purse{Id: top, Coins: 1}, api.Purse{Id: 16, Coins: 1}), api.ErrGenAccount},
		{"no coins", accounts(api.Purse{Id: 16}), api.ErrGenAccount},
		{"no coins of the second", accounts(api.Purse{Id: 16, Coins: 1}, api.Purse{Id: 17}), api.ErrGenAccount},
		{"no coins ahead of others", accounts(api.Purse{Id: 16}, api.Purse{Id: 17, Coins: 1}), api.ErrGenAccount},
	})
}

// P21.3: all coins together, at the bound and past it, also past 2^64.
func TestMakeSupply(t *testing.T) {
	coins := func(all ...uint64) func(*api.Genesis) {
		return func(g *api.Genesis) {
			g.Accounts, g.Vals = nil, nil
			for i, n := range all {
				g.Accounts = append(g.Accounts, api.Purse{Id: 16 + uint64(i), Coins: n})
			}
		}
	}
	wantFaults(t, []change{
		{"all", coins(supply), api.OK},
		{"one more", coins(supply + 1), api.ErrGenSupply},
		{"all of two", coins(1, supply-1), api.OK},
		{"all of three", coins(supply-5, 2, 3), api.OK},
		{"one more of two", coins(1, supply), api.ErrGenSupply},
		{"one more of two, the other way round", coins(supply, 1), api.ErrGenSupply},
		{"one more of three", coins(supply-5, 3, 3), api.ErrGenSupply},
		{"the most of all", coins(top), api.ErrGenSupply},
		{"2^64 together", coins(1<<63, 1<<63), api.ErrGenSupply},
		{"2^64 and 1 together", coins(top, 2), api.ErrGenSupply},
		{"2^64 and 1 together, the other way round", coins(2, top), api.ErrGenSupply},
		{"2^64 of 256", coins(slices.Repeat([]uint64{1 << 56}, 256)...), api.ErrGenSupply},
		{"2^65 and some of three", coins(top, top, 7), api.ErrGenSupply},
		{"all, of a founder", func(g *api.Genesis) { g.Accounts[0].Coins, g.Vals[0].Tokens = supply, supply }, api.OK},
	})
}

// P21.3: validators are users', rise, and are created, each by its own coins.
func TestMakeValidators(t *testing.T) {
	wantFaults(t, []change{
		{"one", founders(api.Founder{Op: 17, Rate: 3, Tokens: 5}), api.OK},
		{"some", founders(api.Founder{Op: 16, Tokens: 5}, api.Founder{Op: 18, Tokens: 5}, api.Founder{Op: top, Tokens: 7}), api.OK},
		{"all coins", founders(api.Founder{Op: 16, Tokens: 100}), api.OK},
		{"one more than it has", founders(api.Founder{Op: 16, Tokens: 101}), api.ErrGenVal},
		{"the most of all", founders(api.Founder{Op: 16, Tokens: top}), api.ErrGenVal},
		{"no token", founders(api.Founder{Op: 16}), api.ErrGenVal},
		{"no token of the second", founders(api.Founder{Op: 16, Tokens: 1}, api.Founder{Op: 17}), api.ErrGenVal},
		{"all of the rate", founders(api.Founder{Op: 16, Rate: 10000, Tokens: 1}), api.OK},
		{"more than all of it", founders(api.Founder{Op: 16, Rate: 10001, Tokens: 1}), api.ErrGenVal},
		{"a rate of the most", founders(api.Founder{Op: 16, Rate: top, Tokens: 1}), api.ErrGenVal},
		{"twice", founders(api.Founder{Op: 16, Tokens: 1}, api.Founder{Op: 16, Tokens: 1}), api.ErrGenVal},
		{"twice, not side by side", founders(api.Founder{Op: 16, Tokens: 1}, api.Founder{Op: 17, Tokens: 1}, api.Founder{Op: 16, Tokens: 1}), api.ErrGenVal},
		{"falling", founders(api.Founder{Op: 17, Tokens: 1}, api.Founder{Op: 16, Tokens: 1}), api.ErrGenVal},
		{"behind the last", founders(api.Founder{Op: top, Tokens: 1}, api.Founder{Op: 16, Tokens: 1}), api.ErrGenVal},
		{"0", founders(api.Founder{Op: 0, Tokens: 1}), api.ErrGenVal},
		{"Loose", founders(api.Founder{Op: 3, Tokens: 1}), api.ErrGenVal},
		{"Loose, when it has coins", founders(api.Founder{Op: 16, Tokens: 9}, api.Founder{Op: 3, Tokens: 1}), api.ErrGenVal},
		{"15", founders(api.Founder{Op: 15, Tokens: 1}), api.ErrGenVal},
		{"no account", founders(api.Founder{Op: 20, Tokens: 1}), api.ErrGenVal},
		{"no account of the last", founders(api.Founder{Op: 16, Tokens: 1}, api.Founder{Op: 21, Tokens: 1}), api.ErrGenVal},
		{"no accounts at all", func(g *api.Genesis) { g.Accounts = nil }, api.ErrGenVal},
	})
}

// P21.3: where several errors apply, the first one that the chapter names is told.
func TestWhichErrorIsFirst(t *testing.T) {
	bad := []func(*api.Genesis){
		func(g *api.Genesis) { g.Params.Max = 0 },
		func(g *api.Genesis) { g.Accounts = append(g.Accounts, api.Purse{Id: 99}) },
		func(g *api.Genesis) { g.Accounts[0].Coins = supply + 1 },
		func(g *api.Genesis) { g.Vals[0].Rate = 10001 },
	}
	errors := []api.Errno{212, 213, 214, 215}
	for set := range 1 << len(bad) {
		g, want := first(), api.OK
		for i := len(bad) - 1; i >= 0; i-- {
			if set>>i&1 == 1 {
				bad[i](&g)
				want = errors[i]
			}
		}
		wantFault(t, "several", spelt(g), want)
		wantFault(t, "several, and a byte", append(spelt(g), 0), 210)
	}
	wantFaults(t, []change{
		{"too many coins ahead of an id that falls", accounts(api.Purse{Id: 17, Coins: top}, api.Purse{Id: 16, Coins: 1}), api.ErrGenAccount},
		{"too many coins ahead of no coins", accounts(api.Purse{Id: 17, Coins: top}, api.Purse{Id: 18}), api.ErrGenAccount},
		{"a founder that is refused, of an account with too many coins", func(g *api.Genesis) { g.Accounts[0].Coins, g.Vals[0].Op = top, 3 }, api.ErrGenSupply},
	})
}

// P21.3: who has the most tokens is bonded, of as many the lesser one; the others' tokens are Loose's.
func TestWhoIsBonded(t *testing.T) {
	for most := uint64(1); most <= 6; most++ {
		g := first()
		founders(api.Founder{Op: 16, Tokens: 5}, api.Founder{Op: 17, Tokens: 9}, api.Founder{Op: 18, Tokens: 5}, api.Founder{Op: 19, Tokens: 100}, api.Founder{Op: top, Tokens: 9})(&g)
		g.Params.Max = most
		wantMade(t, g)
		s := made(t, g)
		want := []uint64{19, 17, top, 16, 18}[:min(most, 5)]
		slices.Sort(want)
		if got := power.Bonded(s); !slices.Equal(got, want) {
			t.Errorf("P21.3: of %d: %v, not %v", most, got, want)
		}
	}
	g := many(256, 64)
	g.Params.Max = 64
	wantMade(t, g)
	g.Params.Max = 63
	wantMade(t, g)
}

// P21.3: drawn beginnings, byte by byte.
func TestMakeOfDrawnChains(t *testing.T) {
	r := rand.New(rand.NewSource(214))
	for range 1500 {
		wantMade(t, drawnChain(r))
	}
}

// P21.3: drawn beginnings with one thing that is wrong.
func TestMakeOfSpoiltChains(t *testing.T) {
	r := rand.New(rand.NewSource(215))
	for k := range 3000 {
		g := drawnChain(r)
		if len(g.Accounts) < 2 || len(g.Vals) < 2 {
			continue
		}
		at, to := r.Intn(len(g.Accounts)), r.Intn(len(g.Vals))
		want := api.ErrGenVal
		switch k % 8 {
		case 0:
			*fieldsOf(&g.Params)[r.Intn(9)] = 1<<40 + r.Uint64()>>1
			want = api.ErrGenParams
		case 1:
			g.Accounts[at].Coins = 0
			want = api.ErrGenAccount
		case 2:
			g.Accounts[at], g.Accounts[(at+1)%len(g.Accounts)] = g.Accounts[(at+1)%len(g.Accounts)], g.Accounts[at]
			want = api.ErrGenAccount
		case 3:
			g.Accounts[at].Coins = supply + 1 + r.Uint64()>>2
			want = api.ErrGenSupply
		case 4:
			g.Vals[to].Tokens = 0
		case 5:
			g.Vals[to].Rate = 10001 + r.Uint64()>>2
		case 6:
			g.Vals[to], g.Vals[(to+1)%len(g.Vals)] = g.Vals[(to+1)%len(g.Vals)], g.Vals[to]
		case 7:
			g.Vals[to].Tokens = supply + 1 + r.Uint64()>>2
		}
		if _, e := genesis.Make(spelt(g)); e != want {
			t.Fatalf("P21.3: %+v: %v, not %v", g, e, want)
		}
	}
}
