package sound

import (
	"iter"

	"glean/api"
	"glean/kv"
	"glean/rec"
)

// entry: what is under way, as far as both kinds are asked alike; whole: whether it is what its own kind asks.
type entry struct {
	kind                 int
	id, del, from        uint64
	height, due, initial uint64
	whole                bool
}

// counted: how many entries a pair has.
type counted struct{ entries uint64 }

// entriesFit: rule 11.
func entriesFit(s *kv.Store) bool {
	c, found, counts := chain(s), 0, map[api.Key]counted{}
	for e := range entries(s) {
		if !e.whole || !e.fits(c) || !e.stands(s) {
			return false
		}
		found++
		pair := api.Key{Kind: api.KeyCount, A: e.del, B: e.from}
		counts[pair] = counted{counts[pair].entries + 1}
	}
	// Each entry stands at a place of its own, so that as many are just these.
	return number(s, api.KeyDue) == found && number(s, api.KeySource) == found && countsMatch(s, counts)
}

// entries gives all that is under way.
func entries(s *kv.Store) iter.Seq[entry] {
	return func(yield func(entry) bool) {
		for k, u := range records(s, api.KeyUnbonding, rec.Unbonding) {
			alone := !lies(s, api.Key{Kind: api.KeyMove, A: k.A})
			e := entry{api.KeyUnbonding, k.A, u.Del, u.Val, u.Height, u.Due, u.Initial, alone && u.Balance <= u.Initial}
			if !yield(e) {
				return
			}
		}
		for k, m := range records(s, api.KeyMove, rec.Move) {
			e := entry{api.KeyMove, k.A, m.Del, m.Src, m.Height, m.Due, m.Initial, isUser(m.Dst) && m.Dst != m.Src}
			if !yield(e) {
				return
			}
		}
	}
}

// fits tells whether an entry can be one of a chain that stands there. What is due above the chain's height is due above its own, which isn't above that.
func (e entry) fits(c api.Chain) bool {
	return e.id < c.Next && isUser(e.del) && isUser(e.from) &&
		e.height <= c.Height && e.due > c.Height &&
		e.initial >= 1 && e.initial <= api.MaxSupply
}

// stands tells whether an entry is found by when it comes due, and by whom it left.
func (e entry) stands(s *kv.Store) bool {
	for _, k := range []api.Key{{Kind: api.KeyDue, A: e.due, B: e.id}, {Kind: api.KeySource, A: e.from, B: e.id}} {
		if kind, there := record(s, k, rec.Number); !there || kind != uint64(e.kind) {
			return false
		}
	}
	return true
}

// countsMatch tells whether just these counts lie there, none above the params' bound.
func countsMatch(s *kv.Store, counts map[api.Key]counted) bool {
	found, most := 0, params(s).Entries
	for k, n := range records(s, api.KeyCount, rec.Number) {
		if n == 0 || n != counts[k].entries || n > most {
			return false
		}
		found++
	}
	return found == len(counts)
}
