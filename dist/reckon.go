package dist

import (
	"iter"

	"glean/api"
	"glean/bank"
	"glean/dec"
	"glean/kv"
	"glean/nat"
	"glean/power"
)

// portion tells what a rate or a tax takes of a sum; never more than all of it.
func portion(sum api.Dec, parts uint64) api.Dec {
	return dec.Mul(sum, dec.Basis(min(parts, api.Parts)))
}

// less tells a - b; 0, if a is below b.
func less(a, b api.Dec) api.Dec {
	difference, _ := dec.Sub(a, b)
	return difference
}

// least tells the lesser one of both.
func least(a, b api.Dec) api.Dec {
	if dec.Cmp(a, b) > 0 {
		return b
	}
	return a
}

// bonded gives the bonded validators that have a record, rising. Who they are is known ahead of the first one, so that their records may be laid while it is gone through.
func bonded(s *kv.Store) iter.Seq2[uint64, api.Validator] {
	return func(yield func(uint64, api.Validator) bool) {
		for _, id := range power.Bonded(s) {
			if v, there := Val(s, id); there && !yield(id, v) {
				return
			}
		}
	}
}

// tokens tells the tokens of all of these together; a Nat, as they may be more than a uint64 holds.
func tokens(s *kv.Store) api.Nat {
	sum := nat.Of(0)
	for _, v := range bonded(s) {
		sum = nat.Add(sum, nat.Of(v.Tokens))
	}
	return sum
}

// shareOut gives a sum to these by their tokens, and tells what each one's Current grew by, and what they were given together. Without tokens nobody is given anything.
func shareOut(s *kv.Store, sum api.Dec) ([]api.Paid, api.Dec) {
	var gave []api.Paid
	var given api.Dec
	all := dec.OfNat(tokens(s))
	if dec.Zero(all) {
		return gave, given
	}
	due := func(v api.Validator) api.Dec {
		part, _ := dec.MulDiv(sum, dec.Of(v.Tokens), all)
		given = dec.Add(given, part)
		return part
	}
	for id, v := range bonded(s) {
		now := Give(v, due(v))
		SetVal(s, id, now)
		gave = append(gave, api.Paid{Val: id, Q: less(now.Current, v.Current)})
	}
	return gave, given
}

// pay pays a delegator a claim, as far as there are coins for it: its whole part goes to the delegator, what is left to the pool. Both are told; 0, if the coins are refused.
func pay(s *kv.Store, del uint64, claim api.Dec) (uint64, api.Dec) {
	whole, left := dec.Trunc(least(claim, dec.Of(bank.Get(s, api.Shared).Coins)))
	w, _ := nat.Small(whole) // it is at most Shared's coins
	if bank.Move(s, api.Shared, del, w) != api.OK {
		return 0, api.Dec{}
	}
	Pour(s, left)
	return w, left
}
