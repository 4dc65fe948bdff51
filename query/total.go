package query

import (
	"iter"
	"slices"

	"glean/api"
	"glean/bank"
	"glean/dec"
	"glean/dist"
	"glean/keys"
	"glean/kv"
	"glean/nat"
	"glean/rec"
)

// reckon tells what there is in all.
func reckon(s *kv.Store) api.Totals {
	t := api.Totals{Coins: bank.Sum(s), Pool: dist.Pool(s)}
	for b := range laid(s, api.KeyVal) {
		v, _ := rec.Val(b)
		t.Vals++
		t.Tokens = nat.Add(t.Tokens, nat.Of(v.Tokens))
		t.Outstanding = dec.Add(t.Outstanding, v.Outstanding)
		t.Shares = dec.Add(t.Shares, v.Shares)
	}
	for range laid(s, api.KeyDelegation) {
		t.Dels++
	}
	for b := range laid(s, api.KeyUnbonding) {
		u, _ := rec.Unbonding(b)
		t.Entries++
		t.Balances = nat.Add(t.Balances, nat.Of(u.Balance))
	}
	for range laid(s, api.KeyMove) {
		t.Entries++
	}
	return t
}

// laid gives what lies under all keys of a kind.
func laid(s *kv.Store, kind int) iter.Seq[[]byte] {
	begin, _ := keys.Of(kind)
	return func(yield func([]byte) bool) {
		for b, value := range s.Prefix(begin) {
			// Keys of several kinds begin alike.
			if k, _ := keys.Read(b); k.Kind == kind && !yield(value) {
				return
			}
		}
	}
}

// copied tells the same totals in new memory, as those that are kept never change.
func copied(t api.Totals) api.Totals {
	for _, n := range []*api.Nat{&t.Coins, &t.Tokens, &t.Balances, &t.Pool.Raw, &t.Outstanding.Raw, &t.Shares.Raw} {
		*n = slices.Clone(*n)
	}
	return t
}
