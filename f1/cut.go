package f1

import (
	"iter"

	"glean/api"
	"glean/dec"
	"glean/keys"
	"glean/kv"
	"glean/rec"
)

// cuts gives the cuts of periods above from, up to last, with their periods, rising.
func cuts(s *kv.Store, id, from, last uint64) iter.Seq2[uint64, api.Cut] {
	return func(yield func(uint64, api.Cut) bool) {
		// Both bounds stand behind a period's key, as there is no next period to the greatest one.
		first, end := keys.Next(key(api.KeyCut, id, from)), keys.Next(key(api.KeyCut, id, last))
		for b, value := range s.Walk(first, end) {
			k, _ := keys.Read(b)
			c, _ := rec.Cut(value)
			if !yield(k.B, c) {
				return
			}
		}
	}
}

// behind tells what a cut leaves of a stake; 0, if there were no tokens ahead of it.
func behind(stake api.Dec, c api.Cut) api.Dec {
	left, _ := dec.MulDiv(stake, dec.Of(c.After), dec.Of(c.Before))
	return left
}
