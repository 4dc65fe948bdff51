package whole_test

import (
	"math/big"
	"math/rand"
	"slices"
	"testing"

	"glean/api"
	"glean/audit"
)

// natValue tells a Nat as another arithmetic has it.
func natValue(n api.Nat) *big.Int { return raw(api.Dec{Raw: n}) }

// wantBound fails unless a payment lies within the bound of what was owed.
func wantBound(t *testing.T, x api.Audited) {
	t.Helper()
	q := new(big.Rat).SetFrac(raw(x.Q), scale)
	paid := new(big.Rat).Add(q, new(big.Rat).SetInt(new(big.Int).SetUint64(x.W)))
	owed := new(big.Rat).SetFrac(natValue(x.E.Num), natValue(x.E.Den))
	slack := new(big.Rat).SetFrac(big.NewInt(int64(x.P)*int64(x.K+3)), big.NewInt(1e18))
	if q.Cmp(big.NewRat(1, 1)) >= 0 || paid.Cmp(owed) > 0 || new(big.Rat).Sub(owed, slack).Cmp(paid) > 0 || !x.Fits {
		t.Fatalf("P30.2: %d of %d was paid %s, and was owed %s behind %d periods and %d cuts: %v", x.Del, x.Val, paid, owed, x.P, x.K, x.Fits)
	}
}

// P30.2, P30.4: whatever run there is, each payment lies within the bound, and all that is owed is covered behind each block.
func TestBoundAndCovered(t *testing.T) {
	r := rand.New(rand.NewSource(3003))
	payments, cuts := 0, 0
	for range 60 {
		x := drawnRun(t, r, 40)
		a, e := audit.New(x.begin)
		must(t, a, e)
		for _, items := range x.blocks {
			_, all, e := a.Block(items)
			for _, one := range must(t, all, e) {
				wantBound(t, one)
				payments++
				cuts += one.K
			}
			for _, id := range users() {
				if owed, covered := a.Owes(id); !covered {
					t.Fatalf("P30.4: %v is owed behind %d", owed, id)
				}
			}
		}
	}
	if payments < 1000 || cuts < 100 {
		t.Errorf("P30.2: only %d payments, %d cuts", payments, cuts)
	}
}

// naive: the ledger that P30.2 tells of, by another arithmetic: of one validator.
type naive struct{ stake, owed map[uint64]*big.Rat }

// credit credits a block's reward by stake by tokens.
func (n naive) credit(reward *big.Rat, tokens int64) {
	for id, stake := range n.stake {
		part := new(big.Rat).Quo(stake, big.NewRat(tokens, 1))
		n.owed[id].Add(n.owed[id], part.Mul(part, reward))
	}
}

// P30.2: by hand: a validator with a fifth as its rate is given fees that thirds can't share, is cut twice between, and pays all at the end.
func TestBoundByHand(t *testing.T) {
	g := api.Genesis{Params: api.Params{Max: 1, Unbond: 9, Entries: 9, Down: 3333, Age: 50, Keeper: 16}, Vals: []api.Founder{{Op: 16, Rate: 2000, Tokens: 100}}}
	for id := uint64(16); id < 20; id++ {
		g.Accounts = append(g.Accounts, api.Purse{Id: id, Coins: 1000})
	}
	a, e := audit.New(laid(g))
	must(t, a, e)
	n := naive{map[uint64]*big.Rat{16: big.NewRat(100, 1), 17: big.NewRat(70, 1), 18: big.NewRat(31, 1)}, map[uint64]*big.Rat{16: new(big.Rat), 17: new(big.Rat), 18: new(big.Rat)}}
	block := func(items ...[]byte) []api.Audited {
		report, all, e := a.Block(items)
		must(t, report, e)
		if slices.ContainsFunc(report.Replies, func(r api.Reply) bool { return r.Err != api.OK }) {
			t.Fatalf("P30.1: %+v", report)
		}
		return all
	}
	block(tx(17, 0, 0, delegate, 16, 70), tx(18, 0, 10, delegate, 16, 31))
	block(fault(down, 16, 2), tx(16, 0, 7, unjail)) // 8 of 201 tokens; then 66 go
	n.credit(big.NewRat(8, 1), 201)
	block(fault(down, 16, 3), tx(16, 1, 1, unjail)) // 5.6 of 135; then 44 go
	n.scale(135, 201)
	n.credit(big.NewRat(28, 5), 135)
	n.scale(91, 135)
	n.credit(big.NewRat(4, 5), 91)
	for _, one := range block(tx(16, 2, 0, withdraw, 16), tx(17, 1, 0, withdraw, 16), tx(18, 1, 0, withdraw, 16)) {
		wantBound(t, one)
		if got := new(big.Rat).SetFrac(natValue(one.E.Num), natValue(one.E.Den)); got.Cmp(n.owed[one.Del]) != 0 || one.K != 2 {
			t.Fatalf("P30.2: %s is owed to %d behind %d cuts, not %s", got, one.Del, one.K, n.owed[one.Del])
		}
	}
}

// scale has all stakes be what a cut leaves.
func (n naive) scale(after, before int64) {
	for _, stake := range n.stake {
		stake.Mul(stake, big.NewRat(after, before))
	}
}
