package script_test

import (
	"bytes"
	"testing"

	"glean/api"
	"glean/script"
)

// P26.3: the chapter's example.
func TestPlayByHand(t *testing.T) {
	wantPlay(t, begin+"block\ntx 16 0 5 send 17 3", "block 1\nok 0 0\ncoins 100\npool 0\n")
	wantPlay(t, begin, "coins 100\npool 0\n")
	wantPlay(t, begin+"block\nblock\n", "block 1\nblock 2\ncoins 100\npool 0\n")
}

// P26.3: what each message tells: coins, shares, and of each payment four words.
func TestPlayMessages(t *testing.T) {
	text := "params 2 2 4 0 0 0 0 9 0 16\naccount 16 100\naccount 17 100\naccount 18 100\nvalidator 16 2500 10\n"
	wantPlay(t, text+"block\ntx 17 0 0 delegate 16 30\ntx 18 0 6 create 0 20\nblock\ntx 16 0 0 commission\ntx 17 1 0 withdraw 16\ntx 17 2 0 redelegate 16 18 6\ntx 17 3 0 undelegate 18 0\ntx 16 1 0 fund 7\ntx 16 2 0 spend 17 4\nblock\nblock\n",
		"block 1\nok 0 30 16 17 0 0\nok 0 20 18 18 0 0\ncame 18\n"+
			"block 2\ngave 16 3\ngave 18 2\nok 1 0\nok 0 0 16 17 2 0.25\nok 6 0 16 17 0 0 18 17 0 0\nok 6 0 18 17 0 0\nok 0 0\nok 0 0\n"+
			"block 3\nblock 4\ndue 1 13\ndue 2 12\ncoins 300\npool 3.25\n")
}

// P26.3: errors of items tell their numbers, and nothing else; those behind them are done.
func TestPlayErrors(t *testing.T) {
	wantPlay(t, begin+"block\nraw -\nraw 00\ntx 15 0 1 unjail\ntx 16 0 0 unjail\ntx 17 0 1 unjail\ntx 16 1 1 unjail\ntx 16 0 1 unjail\ntx 16 1 1 send 15 1\ntx 16 2 1 spend 17 1\ntx 16 3 1 send 17 1000\ntx 16 4 1 delegate 17 1\nfault 3 16 1\nfault down 17 1\nfault down 16 2\ntx 16 5 1 withdraw 16\n",
		"block 1\nerr 170\nerr 170\nerr 180\nerr 181\nerr 182\nerr 183\nerr 165\nerr 202\nerr 142\nerr 90\nerr 150\nerr 160\nerr 161\nerr 162\nok 0 0 16 16 0 0\ncoins 100\npool 0\n")
	long := begin + "block\nraw " + string(bytes.Repeat([]byte("00"), api.MaxItem+1)) + "\n"
	wantPlay(t, long, "block 1\nerr 171\ncoins 100\npool 0\n")
}

// P26.3: faults tell coins and what was paid; what went and came stands in lines of its own.
func TestPlayFaults(t *testing.T) {
	text := "params 1 5 4 0 5000 1000 3 9 0 16\naccount 16 100\naccount 17 100\nvalidator 16 0 20\nvalidator 17 0 10\n"
	wantPlay(t, text+"block\ntx 16 0 4 undelegate 16 10\nblock\nfault down 16 1\nblock\nfault double 17 2\nblock\n",
		"block 1\nok 10 0 16 16 0 0\nblock 2\ngave 16 4\nok 2 0\nwent 16\ncame 17\nblock 3\nok 5 0\nwent 17\nblock 4\ncoins 200\npool 7\n")
}

// P26.3: a block of more than MaxItems items is refused, and nothing of it is done; it has no height.
func TestPlayRefusedBlocks(t *testing.T) {
	s := parsed(t, begin+"block\nblock\n")
	for range api.MaxItems {
		s.Blocks[0] = append(s.Blocks[0], nil)
	}
	s.Blocks = append([][][]byte{append([][]byte{tx(16, 0, 5, 1, 17, 3)}, s.Blocks[0]...)}, s.Blocks...)
	got, e := script.Play(s)
	want := "refused 201\nblock 1\n" + string(bytes.Repeat([]byte("err 170\n"), api.MaxItems)) + "block 2\ncoins 100\npool 0\n"
	if e != api.OK || got != want {
		t.Fatalf("P26.3: %v, %q", e, got)
	}
}

// P26.3: each of genesis.Make's errors, ahead of all blocks.
func TestPlayNoBeginning(t *testing.T) {
	wantRefused(t, api.Script{}, api.ErrGenParams)
	for _, x := range []struct {
		want   api.Errno
		change func(g *api.Genesis)
	}{
		{api.ErrGenForm, func(g *api.Genesis) { g.Accounts = make([]api.Purse, api.MaxPurses+1) }},
		{api.ErrGenForm, func(g *api.Genesis) { g.Vals = make([]api.Founder, api.MaxFounders+1) }},
		{api.ErrGenLong, func(g *api.Genesis) { g.Accounts = make([]api.Purse, 5000) }},
		{api.ErrGenParams, func(g *api.Genesis) { g.Params.Tax = api.Parts + 1 }},
		{api.ErrGenAccount, func(g *api.Genesis) { g.Accounts[0].Id = 15 }},
		{api.ErrGenAccount, func(g *api.Genesis) { g.Accounts[0].Coins = 0 }},
		{api.ErrGenSupply, func(g *api.Genesis) { g.Accounts[0].Coins = api.MaxSupply + 1 }},
		{api.ErrGenVal, func(g *api.Genesis) { g.Vals[0].Op = 17 }},
		{api.ErrGenVal, func(g *api.Genesis) { g.Vals[0].Tokens = 101 }},
	} {
		s := api.Script{Genesis: begun(), Blocks: [][][]byte{{nil}, make([][]byte, 300)}}
		x.change(&s.Genesis)
		wantRefused(t, s, x.want)
	}
}

// P26.3: the most coins there may be, and a Dec with many places, are told as they are.
func TestPlayGreatNumbers(t *testing.T) {
	wantPlay(t, "params 1 1 1 3333 0 0 0 1 0 16\naccount 16 999999999999999999\naccount 18446744073709551615 1\nvalidator 16 9999 3\nblock\ntx 16 0 999999999999999996 unjail\ntx 18446744073709551615 0 1 unjail\nblock\n",
		"block 1\nerr 165\nerr 161\nblock 2\ngave 16 66669999999999.99979999\ncoins 1000000000000000000\npool 333299999999999999.0001\n")
}
