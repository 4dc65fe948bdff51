package slash

import (
	"glean/api"
	"glean/dist"
	"glean/f1"
	"glean/keys"
	"glean/kv"
	"glean/power"
	"glean/share"
	"glean/stake"
)

// tomb tells the key of a validator's tomb; a key of that kind is never refused.
func tomb(val uint64) []byte {
	k, _ := keys.Make(api.Key{Kind: api.KeyTomb, A: val})
	return k
}

// house tells where a validator's tokens lie.
func house(v api.Validator) uint64 {
	if v.Bonded {
		return api.Bonded
	}
	return api.Loose
}

// refusal tells why a fault isn't taken; all reasons are asked for ahead of the first change, so that nothing is to be taken back.
func refusal(s *kv.Store, kind int, val, height uint64) api.Errno {
	v, there := dist.Val(s, val)
	_, over := Tomb(s, val)
	now := stake.Chain(s).Height
	switch {
	case kind != api.FaultDouble && kind != api.FaultDown:
		return api.ErrSlashKind
	case !there:
		return api.ErrSlashNone
	case height > now || now-height > stake.Params(s).Age:
		return api.ErrSlashTime
	case over:
		return api.ErrSlashTomb
	case kind == api.FaultDown && v.Jailed:
		return api.ErrSlashJail
	}
	return api.OK
}

// penalty tells the parts that a fault cuts, and until when it jails.
func penalty(s *kv.Store, kind int) (parts, until uint64) {
	p := stake.Params(s)
	if kind == api.FaultDouble {
		return p.Double, api.Forever
	}
	return p.Down, stake.Chain(s).Height + p.Jail
}

// strike cuts a validator's tokens and jails it; it tells the coins that were cut. It stays bonded, if it was, and so in its house, until the next Elect.
func strike(s *kv.Store, val, parts, until uint64) uint64 {
	v, _ := dist.Val(s, val)
	power.Drop(s, val, v.Tokens)
	n := share.Cut(v.Tokens, parts)
	if n > 0 {
		v = shrink(s, val, v, n)
	}
	v.Jailed, v.Until = true, until
	dist.SetVal(s, val, v)
	return n
}

// shrink cuts coins off a validator's tokens; what was earned ahead of that is counted by the tokens that there were.
func shrink(s *kv.Store, val uint64, v api.Validator, n uint64) api.Validator {
	v, rest := f1.Close(s, val, v)
	dist.Pour(s, rest)
	dist.Fund(s, house(v), n)
	return f1.Cut(s, val, v, v.Tokens-n)
}
