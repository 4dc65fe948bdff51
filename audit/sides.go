package audit

import (
	"slices"

	"glean/api"
	"glean/app"
	"glean/dist"
	"glean/kv"
	"glean/ledger"
	"glean/msg"
	"glean/rat"
)

// sides: the engine, and the ledger beside it, which learns by the engine's reports and its store alone what is done.
type sides struct {
	*app.Engine
	*ledger.Ledger
}

// found holds what a founder has in its own validator: at a chain's beginning there are no other delegations.
func (x sides) found(s *kv.Store, op uint64) {
	v, _ := dist.Val(s, op)
	d, _ := dist.Delegation(s, op, op)
	x.Hold(op, op, d.Shares, v.Shares, v.Tokens)
}

// begin begins a block, and gives what was shared out; a block's beginning leaves the validators' tokens, so that they may be asked for behind it.
func (x sides) begin() api.Report {
	report := x.Begin()
	now := x.Store()
	for _, g := range report.Gave {
		v, _ := dist.Val(now, g.Val)
		x.Give(g.Val, g.Q, v.Tokens)
	}
	return report
}

// deliver does an item; where a fault has cut a validator's tokens, which no reply tells, its stakes are cut, too.
func (x sides) deliver(item []byte) api.Reply {
	i, _ := msg.Decode(item) // what is no item has no kind either
	if i.Kind != api.ItemFault {
		return x.Deliver(item)
	}
	before := x.tokens(i.Fault.Val)
	reply := x.Deliver(item)
	if after := x.tokens(i.Fault.Val); after != before {
		x.Cut(i.Fault.Val, before, after)
	}
	return reply
}

// tokens tells what a validator has now; 0, if there is none.
func (x sides) tokens(val uint64) uint64 {
	v, _ := dist.Val(x.Store(), val)
	return v.Tokens
}

// settle holds a payment against what was owed; right behind that the delegation that was paid is held anew.
func (x sides) settle(p api.Paid) api.Audited {
	defer x.remember(p)
	owed, periods, cuts := x.Settle(p.Val, p.Del)
	return api.Audited{
		Val: p.Val, Del: p.Del, W: p.W, Q: api.Dec{Raw: slices.Clone(p.Q.Raw)},
		E: owed, P: periods, K: cuts, Fits: ledger.Fits(owed, p.W, p.Q, periods, cuts),
	}
}

// remember holds a delegation as a payment tells what it is behind it, or lets it go, if nothing of it is left.
func (x sides) remember(p api.Paid) {
	if rat.Zero(rat.OfDec(p.Left)) {
		x.Drop(p.Val, p.Del)
		return
	}
	x.Hold(p.Val, p.Del, p.Left, p.Shares, p.Tokens)
}
