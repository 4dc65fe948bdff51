package audit

import (
	"testing"

	"glean/api"
	"glean/dec"
	"glean/genesis"
	"glean/msg"
	"glean/nat"
)

// No run has an audit find fault; so these tests have the ledger owe more, or less, than it would.

// given tells an audit behind whose validator 16, of 3 coins of its own, 2.25 are owed, 3 outstanding, 0.75 commission.
func given(t *testing.T) *Audit {
	t.Helper()
	a, e := New(genesis.Encode(api.Genesis{
		Params:   api.Params{Max: 1, Unbond: 1, Entries: 1, Keeper: 16},
		Accounts: []api.Purse{{Id: 16, Coins: 9}, {Id: 17, Coins: 9}},
		Vals:     []api.Founder{{Op: 16, Rate: 2500, Tokens: 3}},
	}))
	if e != api.OK {
		t.Fatalf("P25.1: New: %v", e)
	}
	do(t, a, api.Tx{Sender: 17, Fee: 3, Msg: api.Msg{Kind: api.MsgFund}})
	do(t, a, api.Tx{Sender: 17, Seq: 1, Msg: api.Msg{Kind: api.MsgFund}})
	return a
}

// do does a block of one transaction, and tells what was audited.
func do(t *testing.T, a *Audit, tx api.Tx) []api.Audited {
	t.Helper()
	item, _ := msg.Encode(api.Item{Kind: api.ItemTx, Tx: tx})
	report, all, e := a.Block([][]byte{item})
	if e != api.OK || report.Replies[0].Err != api.OK {
		t.Fatalf("P25.2: Block: %v, %v", report, e)
	}
	return all
}

// withdrawn has 16 withdraw, and tells what was audited.
func withdrawn(t *testing.T, a *Audit, seq uint64) api.Audited {
	t.Helper()
	all := do(t, a, api.Tx{Sender: 16, Seq: seq, Msg: api.Msg{Kind: api.MsgWithdraw, A: 16}})
	if len(all) != 1 {
		t.Fatalf("P25.2: %v", all)
	}
	return all[0]
}

// parts tells n / 10^18 and so many 10^-36 more.
func parts(n, hairs uint64) api.Dec {
	scale, _ := nat.Pow10(18)
	return api.Dec{Raw: nat.Add(nat.Mul(nat.Of(n), scale), nat.Of(hairs))}
}

// P25.3: covered to the last hair; with one more owed it isn't.
func TestNotCovered(t *testing.T) {
	a := given(t)
	if owed, covered := a.Owes(16); !covered || len(owed.Num) != 1 || owed.Num[0] != 9 || owed.Den[0] != 4 {
		t.Fatalf("P25.3: %v, %v", owed, covered)
	}
	a.sides.Give(16, parts(0, 1), 3)
	if owed, covered := a.Owes(16); covered || len(owed.Num) == 0 {
		t.Fatalf("P25.3: a hair more: %v, %v", owed, covered)
	}
	a.sides.Settle(16, 16)
	if owed, covered := a.Owes(16); !covered || len(owed.Num) != 0 {
		t.Fatalf("P25.3: nothing owed: %v, %v", owed, covered)
	}
}

// P25.2: a payment fits up to the bound below what is owed, not a hair further, and never if it is above that; whether it fits or not, the delegation is held anew.
func TestNotFit(t *testing.T) {
	for what, c := range map[string]struct {
		more api.Dec
		fits bool
	}{
		"as owed":        {api.Dec{}, true},
		"by the bound":   {parts(3, 0), true},
		"a hair further": {parts(3, 1), false},
		"by a coin":      {dec.Of(1), false},
	} {
		a := given(t)
		a.sides.Give(16, c.more, 3)
		if x := withdrawn(t, a, 0); x.Fits != c.fits || x.W != 2 || x.P != 1 || x.K != 0 {
			t.Errorf("P25.2: %s: %+v", what, x)
		}
		if x := withdrawn(t, a, 1); !x.Fits || x.W != 0 || len(x.E.Num) != 0 || x.P != 1 {
			t.Errorf("P25.2: behind one %s: %+v", what, x)
		}
	}
	a := given(t)
	a.sides.Settle(16, 16)
	if x := withdrawn(t, a, 0); x.Fits || x.W != 2 || len(x.E.Num) != 0 {
		t.Errorf("P25.2: more than is owed: %+v", x)
	}
}
