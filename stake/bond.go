package stake

import (
	"glean/api"
	"glean/bank"
	"glean/dec"
	"glean/dist"
	"glean/f1"
	"glean/kv"
	"glean/queue"
	"glean/share"
)

// bond: a validator, and somebody who stands behind it or is about to, with the records of both as they are while a call goes on.
type bond struct {
	val, del uint64
	v        api.Validator
	d        api.Delegation
	held     bool // whether there is a delegation
}

// find tells a bond as it lies, and whether there is such a validator.
func find(s *kv.Store, val, del uint64) (bond, bool) {
	v, there := dist.Val(s, val)
	d, held := dist.Delegation(s, val, del)
	return bond{val, del, v, d, held}, there
}

// house tells where the validator's tokens lie.
func (b bond) house() uint64 {
	if b.v.Bonded {
		return api.Bonded
	}
	return api.Loose
}

// bind has coins go from an account to the house, and joins them; it tells the shares for them, and what was paid.
func (b bond) bind(s *kv.Store, from, t uint64) (api.Dec, api.Paid, api.Errno) {
	z, e := share.Issue(b.v.Tokens, b.v.Shares, t)
	if e != api.OK {
		return api.Dec{}, api.Paid{}, e
	}
	if e = bank.Move(s, from, b.house(), t); e != api.OK {
		return api.Dec{}, api.Paid{}, e
	}
	return z, b.join(s, t, z), api.OK
}

// join joins coins that lie in the house, with shares, and tells what was paid.
func (b bond) join(s *kv.Store, t uint64, z api.Dec) api.Paid {
	was := b.v
	paid := b.settle(s)
	b.v.Tokens += t
	b.v.Shares, b.d.Shares = dec.Add(b.v.Shares, z), dec.Add(b.d.Shares, z)
	index(s, b.val, was, b.v)
	b.hold(s)
	dist.SetVal(s, b.val, b.v)
	return b.told(paid)
}

// settle closes the validator's period, and pays the delegation, if there is one.
func (b *bond) settle(s *kv.Store) (paid api.Paid) {
	if b.held {
		b.v, paid = dist.Settle(s, b.val, b.v, b.del)
		return paid
	}
	v, rest := f1.Close(s, b.val, b.v)
	dist.Pour(s, rest)
	b.v = v
	return api.Paid{Val: b.val, Del: b.del}
}

// hold holds the delegation from here on, and lays it.
func (b *bond) hold(s *kv.Store) {
	b.d = f1.Hold(s, b.val, b.v, b.d)
	dist.SetDelegation(s, b.val, b.del, b.d)
	s.Set(key(api.KeyHolds, b.del, b.val), nil)
}

// told tells what was paid with the bond as it is then.
func (b bond) told(paid api.Paid) api.Paid {
	paid.Left, paid.Tokens, paid.Shares = b.d.Shares, b.v.Tokens, b.v.Shares
	return paid
}

// wanted tells the shares that a wish for coins takes; of no number all that there are.
func (b bond) wanted(t uint64) (api.Dec, api.Errno) {
	if t == 0 {
		return b.d.Shares, api.OK
	}
	x, e := share.Need(b.v.Tokens, b.v.Shares, t)
	if e != api.OK {
		return api.Dec{}, e
	}
	if dec.Cmp(x, b.d.Shares) > 0 {
		return api.Dec{}, api.ErrStakeMuch
	}
	return x, api.OK
}

// leaving tells the wanted shares, if one more entry of the pair may be under way.
func (b bond) leaving(s *kv.Store, t uint64) (api.Dec, api.Errno) {
	x, e := b.wanted(t)
	if e != api.OK {
		return api.Dec{}, e
	}
	if queue.Count(s, b.del, b.val) >= Params(s).Entries {
		return api.Dec{}, api.ErrStakeEntries
	}
	return x, api.OK
}

// take takes shares away, no more than the delegation has, and tells the tokens for them, which stay in the house, and what was paid.
func (b bond) take(s *kv.Store, x api.Dec) (uint64, api.Paid) {
	was := b.v
	paid := b.settle(s)
	r, _ := share.Redeem(b.v.Tokens, b.v.Shares, x) // a delegation has no more shares than its validator
	b.v.Tokens -= r
	b.v.Shares, b.d.Shares = less(b.v.Shares, x), less(b.d.Shares, x)
	index(s, b.val, was, b.v)
	if dec.Zero(b.d.Shares) {
		b.leave(s)
	} else {
		b.hold(s)
	}
	dist.SetVal(s, b.val, b.v)
	if dec.Zero(b.v.Shares) {
		end(s, b.val)
	}
	return r, b.told(paid)
}

// leave takes away all that lies of the delegation.
func (b bond) leave(s *kv.Store) {
	s.Delete(key(api.KeyDelegation, b.val, b.del))
	s.Delete(key(api.KeyHolds, b.del, b.val))
}

// less tells a - b; 0, if a is below b.
func less(a, b api.Dec) api.Dec {
	difference, _ := dec.Sub(a, b)
	return difference
}
