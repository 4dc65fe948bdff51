package rec

import "glean/api"

// hands: what is done with a field, by its kind: a writer's hands lay it, a reader's fill it.
type hands struct {
	number  func(x *uint64)
	truth   func(x *bool)
	decimal func(x *api.Dec)
}

// numbers goes through fields that stand behind one another.
func (h hands) numbers(fields ...*uint64) {
	for _, x := range fields {
		h.number(x)
	}
}

// decimals goes through fields that stand behind one another.
func (h hands) decimals(fields ...*api.Dec) {
	for _, x := range fields {
		h.decimal(x)
	}
}

// ofParams goes through the fields of params.
func ofParams(p *api.Params, h hands) {
	h.numbers(&p.Max, &p.Unbond, &p.Entries, &p.Tax, &p.Double, &p.Down, &p.Jail, &p.Age, &p.Fee, &p.Keeper)
}

// ofChain goes through a chain's.
func ofChain(c *api.Chain, h hands) { h.numbers(&c.Height, &c.Next) }

// ofPool goes through a pool's: it is one number.
func ofPool(d *api.Dec, h hands) { h.decimals(d) }

// ofAccount goes through an account's.
func ofAccount(a *api.Account, h hands) { h.numbers(&a.Coins, &a.Seq) }

// ofVal goes through a validator's.
func ofVal(v *api.Validator, h hands) {
	h.numbers(&v.Rate, &v.Tokens)
	h.decimals(&v.Shares)
	h.truth(&v.Jailed)
	h.numbers(&v.Until)
	h.truth(&v.Bonded)
	h.numbers(&v.Period)
	h.decimals(&v.Current, &v.Outstanding, &v.Commission)
}

// ofDelegation goes through a delegation's.
func ofDelegation(d *api.Delegation, h hands) {
	h.decimals(&d.Shares)
	h.numbers(&d.Period)
	h.decimals(&d.Stake)
}

// ofHistory goes through a history's.
func ofHistory(x *api.History, h hands) {
	h.decimals(&x.Ratio)
	h.numbers(&x.Refs)
}

// ofCut goes through a cut's.
func ofCut(c *api.Cut, h hands) { h.numbers(&c.Before, &c.After) }

// ofUnbonding goes through an unbonding's.
func ofUnbonding(u *api.Unbonding, h hands) {
	h.numbers(&u.Del, &u.Val, &u.Height, &u.Due, &u.Initial, &u.Balance)
}

// ofMove goes through a move's.
func ofMove(m *api.Move, h hands) {
	h.numbers(&m.Del, &m.Src, &m.Dst, &m.Height, &m.Due, &m.Initial)
	h.decimals(&m.Shares)
}

// ofNumber goes through a number's: it is one itself.
func ofNumber(n *uint64, h hands) { h.numbers(n) }
