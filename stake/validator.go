package stake

import (
	"glean/api"
	"glean/bank"
	"glean/dist"
	"glean/keys"
	"glean/kv"
	"glean/power"
)

// index keeps a validator's place by its tokens, which it has just if it isn't jailed and has a token.
func index(s *kv.Store, id uint64, was, now api.Validator) {
	if !was.Jailed && was.Tokens > 0 {
		power.Drop(s, id, was.Tokens)
	}
	if !now.Jailed && now.Tokens > 0 {
		power.Put(s, id, now.Tokens)
	}
}

// end takes away a validator that nobody stands behind: its commission is paid, and what is outstanding beside goes to the pool.
func end(s *kv.Store, id uint64) {
	dist.Commission(s, id) // refused just if it is less than a coin
	v, _ := dist.Val(s, id)
	dist.Pour(s, v.Outstanding)
	power.Bond(s, id, false)
	for _, k := range under(s, keys.Val(id)) {
		s.Delete(k)
	}
}

// turn has a validator be bonded, or no longer, and its tokens go to the house that it has then.
func turn(s *kv.Store, id uint64, on bool) {
	power.Bond(s, id, on)
	v, there := dist.Val(s, id)
	if !there {
		return
	}
	b := bond{val: id, v: v}
	old := b.house // bound here: it tells the house as it was ahead
	b.v.Bonded = on
	bank.Move(s, old(), b.house(), v.Tokens)
	dist.SetVal(s, id, b.v)
}
