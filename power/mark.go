package power

import (
	"iter"

	"glean/api"
	"glean/keys"
	"glean/kv"
)

// place tells where a validator of so many tokens stands; the key's order is the index's.
func place(v, tokens uint64) api.Key {
	return api.Key{Kind: api.KeyPower, A: tokens, B: v}
}

// mark lays a value without bytes under a key, or takes it away: that it is there says all. Keys of this layer's kinds are never refused.
func mark(s *kv.Store, k api.Key, on bool) {
	b, _ := keys.Make(k)
	if !on {
		s.Delete(b)
		return
	}
	s.Set(b, nil)
}

// marked gives the keys of a kind under which something lies, in their order.
func marked(s *kv.Store, kind int) iter.Seq[api.Key] {
	return func(yield func(api.Key) bool) {
		begin, _ := keys.Of(kind)
		for b := range s.Prefix(begin) {
			k, _ := keys.Read(b)
			if !yield(k) {
				return
			}
		}
	}
}
