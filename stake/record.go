package stake

import (
	"glean/api"
	"glean/keys"
	"glean/kv"
)

// key tells a key's bytes; keys of this layer's kinds are never refused.
func key(kind int, a, b uint64) []byte {
	k, _ := keys.Make(api.Key{Kind: kind, A: a, B: b})
	return k
}

// span tells the chain's height, and when what begins now comes due.
func span(s *kv.Store) (now, due uint64) {
	now = Chain(s).Height
	return now, now + Params(s).Unbond
}

// under tells all keys with that beginning; a list, as the store isn't to be changed while it is gone through.
func under(s *kv.Store, beginning []byte) [][]byte {
	var all [][]byte
	for k := range s.Prefix(beginning) {
		all = append(all, k)
	}
	return all
}
