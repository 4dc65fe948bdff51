package whole_test

import (
	"bytes"
	"math/rand"
	"slices"
	"strings"
	"testing"

	"glean/api"
	"glean/app"
	"glean/audit"
	"glean/dec"
	"glean/genesis"
	"glean/keys"
	"glean/kv"
	"glean/rec"
	"glean/script"
)

// wantLies fails unless just these entries lie in a store.
func wantLies(t *testing.T, what string, s *kv.Store, want map[api.Key][]byte) {
	t.Helper()
	all := s.Dump()
	for k, v := range want {
		b, e := keys.Make(k)
		if got, there := s.Get(must(t, b, e)); !there || !bytes.Equal(got, v) {
			t.Fatalf("%s: under %+v: %x, not %x", what, k, got, v)
		}
	}
	if len(all) != len(want) {
		t.Fatalf("%s: %d entries, not %d", what, len(all), len(want))
	}
}

// byHand tells how a chain of two accounts and one founder begins.
func byHand() api.Genesis {
	return api.Genesis{
		Params:   api.Params{Max: 2, Unbond: 10, Entries: 4, Double: 500, Down: 100, Jail: 5, Age: 50, Fee: 1, Keeper: 16},
		Accounts: []api.Purse{{Id: 16, Coins: 100}, {Id: 17, Coins: 50}},
		Vals:     []api.Founder{{Op: 16, Tokens: 10}},
	}
}

// P30.1: two blocks by hand, report by report and entry by entry.
func TestBlocksByHand(t *testing.T) {
	e := begun(t, laid(byHand()))
	of, params := dec.Of, rec.PutParams(byHand().Params)
	account := func(coins, seq uint64) []byte { return rec.PutAccount(api.Account{Coins: coins, Seq: seq}) }
	val := func(tokens, period, current, outstanding uint64) []byte {
		return rec.PutVal(api.Validator{Tokens: tokens, Shares: of(tokens), Bonded: true, Period: period, Current: of(current), Outstanding: of(outstanding)})
	}
	delegation := func(shares, period uint64) []byte {
		return rec.PutDelegation(api.Delegation{Shares: of(shares), Period: period, Stake: of(shares)})
	}
	wantLies(t, "P30.1: at the beginning", e.Store(), map[api.Key][]byte{
		{Kind: api.KeyParams}: params, {Kind: api.KeyChain}: rec.PutChain(api.Chain{Next: 1}),
		{Kind: api.KeyAccount, A: api.Bonded}: account(10, 0), {Kind: api.KeyAccount, A: 16}: account(90, 0), {Kind: api.KeyAccount, A: 17}: account(50, 0),
		{Kind: api.KeyVal, A: 16}: val(10, 2, 0, 0), {Kind: api.KeyDelegation, A: 16, B: 16}: delegation(10, 1), {Kind: api.KeyHistory, A: 16, B: 1}: rec.PutHistory(api.History{Refs: 2}),
		{Kind: api.KeyPower, A: 10, B: 16}: nil, {Kind: api.KeyBonded, A: 16}: nil, {Kind: api.KeyHolds, A: 16, B: 16}: nil,
	})
	joined := api.Reply{Shares: of(5), Paid: []api.Paid{{Val: 16, Del: 17, Left: of(5), Shares: of(15), Tokens: 15}}}
	wantReport(t, "P30.1: block 1", do(t, e, [][]byte{tx(17, 0, 3, delegate, 16, 5)}), api.Report{Height: 1, Replies: []api.Reply{joined}})
	withdrawn := api.Reply{Paid: []api.Paid{{Val: 16, Del: 17, W: 1, Left: of(5), Shares: of(15), Tokens: 15}}}
	taken := api.Reply{N: 4, Paid: []api.Paid{{Val: 16, Del: 16, W: 2, Left: of(6), Shares: of(11), Tokens: 11}}}
	wantReport(t, "P30.1: block 2", do(t, e, [][]byte{tx(17, 1, 2, withdraw, 16), tx(16, 0, 1, undelegate, 16, 4)}),
		api.Report{Height: 2, Gave: []api.Paid{{Val: 16, Q: of(3)}}, Replies: []api.Reply{withdrawn, taken}})
	fifth := dec.Basis(2000)
	wantLies(t, "P30.1: behind block 2", e.Store(), map[api.Key][]byte{
		{Kind: api.KeyParams}: params, {Kind: api.KeyChain}: rec.PutChain(api.Chain{Height: 2, Next: 2}),
		{Kind: api.KeyAccount, A: api.Collector}: account(3, 0), {Kind: api.KeyAccount, A: api.Bonded}: account(11, 0), {Kind: api.KeyAccount, A: api.Loose}: account(4, 0),
		{Kind: api.KeyAccount, A: 16}: account(91, 1), {Kind: api.KeyAccount, A: 17}: account(41, 2),
		{Kind: api.KeyVal, A: 16}: val(11, 5, 0, 0), {Kind: api.KeyDelegation, A: 16, B: 16}: delegation(6, 4), {Kind: api.KeyDelegation, A: 16, B: 17}: delegation(5, 3),
		{Kind: api.KeyHistory, A: 16, B: 3}: rec.PutHistory(api.History{Ratio: fifth, Refs: 1}), {Kind: api.KeyHistory, A: 16, B: 4}: rec.PutHistory(api.History{Ratio: fifth, Refs: 2}),
		{Kind: api.KeyPower, A: 11, B: 16}: nil, {Kind: api.KeyBonded, A: 16}: nil, {Kind: api.KeyHolds, A: 16, B: 16}: nil, {Kind: api.KeyHolds, A: 17, B: 16}: nil,
		{Kind: api.KeyUnbonding, A: 1}:     rec.PutUnbonding(api.Unbonding{Del: 16, Val: 16, Height: 2, Due: 12, Initial: 4, Balance: 4}),
		{Kind: api.KeyDue, A: 12, B: 1}:    rec.PutNumber(api.KeyUnbonding),
		{Kind: api.KeySource, A: 16, B: 1}: rec.PutNumber(api.KeyUnbonding),
		{Kind: api.KeyCount, A: 16, B: 16}: rec.PutNumber(1),
	})
}

// parts has an engine do a block by its parts.
func parts(e *app.Engine, items [][]byte) api.Report {
	report := e.Begin()
	for _, item := range items {
		report.Replies = append(report.Replies, e.Deliver(item))
	}
	end := e.End()
	report.Matured, report.Went, report.Came = end.Matured, end.Went, end.Came
	return report
}

// P30.1: what a run's blocks come to hangs on the run alone: an engine, one that is asked by parts, one that is asked between, and an audit tell the same, and so does a script's text.
func TestOneRunOneAnswer(t *testing.T) {
	r := rand.New(rand.NewSource(3001))
	for range 40 {
		x := drawnRun(t, r, 20)
		second, asked := begun(t, x.begin), begun(t, x.begin)
		a, e := audit.New(x.begin)
		must(t, a, e)
		through(t, x, func(height int, e *app.Engine, report api.Report) {
			items := x.blocks[height-1]
			wantReport(t, "P30.1: by parts", parts(second, items), report)
			for range r.Intn(3) {
				asked.Block(make([][]byte, api.MaxItems+1))
				asked.Store().Set([]byte("c"), nil)
			}
			wantReport(t, "P30.1: asked between", do(t, asked, items), report)
			audited, _, err := a.Block(items)
			wantReport(t, "P30.1: audited", must(t, audited, err), report)
			for _, s := range []*kv.Store{second.Store(), asked.Store(), a.Store()} {
				wantStore(t, "P30.1", s, e.Store())
			}
		})
	}
}

// P30.1: a run's text, brought there and back, plays alike; of its blocks' lines there are as many as replies.
func TestRunAsText(t *testing.T) {
	r := rand.New(rand.NewSource(3002))
	for range 40 {
		x := drawnRun(t, r, 20)
		s := api.Script{Genesis: x.g, Blocks: x.blocks}
		if !bytes.Equal(genesis.Encode(s.Genesis), x.begin) {
			t.Fatal("P21.1: other bytes")
		}
		told, e := script.Play(s)
		must(t, told, e)
		back, err := script.Parse(script.Print(s))
		if err != nil {
			t.Fatalf("P26.4: %v", err)
		}
		if other, e := script.Play(back); e != api.OK || other != told {
			t.Fatalf("P26.4: %v, %q, not %q", e, other, told)
		}
		replies := 0
		for _, items := range x.blocks {
			replies += len(items)
		}
		lines := strings.Split(told, "\n")
		is := func(word string) int {
			return len(slices.DeleteFunc(slices.Clone(lines), func(line string) bool { return !strings.HasPrefix(line, word+" ") }))
		}
		if is("block") != len(x.blocks) || is("ok")+is("err") != replies {
			t.Fatalf("P30.1: %d blocks, %d replies: %q", len(x.blocks), replies, told)
		}
	}
}
