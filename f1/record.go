package f1

import (
	"glean/api"
	"glean/dec"
	"glean/keys"
	"glean/kv"
)

// key tells where a validator's history or cut of a period lies; keys of these kinds are never refused.
func key(kind int, id, period uint64) []byte {
	k, _ := keys.Make(api.Key{Kind: kind, A: id, B: period})
	return k
}

// under tells how the keys of all periods begin.
func under(kind int, id uint64) []byte {
	begin, _ := keys.Under(kind, id)
	return begin
}

// remove takes away what lies there of all periods; the keys are gathered first, as a store isn't to be changed while it is gone through.
func remove(s *kv.Store, kind int, id uint64) {
	var all [][]byte
	for k := range s.Prefix(under(kind, id)) {
		all = append(all, k)
	}
	for _, k := range all {
		s.Delete(k)
	}
}

// number tells of how many periods something lies there.
func number(s *kv.Store, kind int, id uint64) int {
	count := 0
	for range s.Prefix(under(kind, id)) {
		count++
	}
	return count
}

// own tells a Dec in memory of its own, normal, as an answer shares none with what was handed in.
func own(d api.Dec) api.Dec { return dec.Add(d, api.Dec{}) }

// ownVal tells a validator whose Decs are all so.
func ownVal(v api.Validator) api.Validator {
	v.Shares, v.Current = own(v.Shares), own(v.Current)
	v.Outstanding, v.Commission = own(v.Outstanding), own(v.Commission)
	return v
}

// less tells a - b; 0, if a is below b.
func less(a, b api.Dec) api.Dec {
	difference, _ := dec.Sub(a, b)
	return difference
}
