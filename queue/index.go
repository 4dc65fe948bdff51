package queue

import (
	"iter"

	"glean/api"
	"glean/keys"
	"glean/kv"
	"glean/rec"
)

// key tells a key's bytes; keys of this layer's kinds are never refused.
func key(kind int, a, b uint64) []byte {
	k, _ := keys.Make(api.Key{Kind: kind, A: a, B: b})
	return k
}

// number tells a new entry's number; the next one is laid at once, so that no number comes twice.
func number(s *kv.Store) uint64 {
	chain := key(api.KeyChain, 0, 0)
	b, _ := s.Get(chain)
	c, _ := rec.Chain(b) // no bytes are no record: a chain that hasn't begun is the zero one
	id := c.Next
	c.Next++
	s.Set(chain, rec.PutChain(c))
	return id
}

// marks tells the keys under which an entry's kind lies.
func (t trail) marks(id uint64) [2][]byte {
	return [2][]byte{key(api.KeyDue, t.due, id), key(api.KeySource, t.val, id)}
}

// count lays how many entries a pair has; nothing lies there of none, so that a state has one spelling.
func (t trail) count(s *kv.Store, n uint64) {
	k := key(api.KeyCount, t.del, t.val)
	if n == 0 {
		s.Delete(k)
		return
	}
	s.Set(k, rec.PutNumber(n))
}

// entries gives the entries to which marks lead: a mark's key ends with the number, its value is the kind.
func entries(marks iter.Seq2[[]byte, []byte]) iter.Seq[api.Entry] {
	return func(yield func(api.Entry) bool) {
		for b, v := range marks {
			k, _ := keys.Read(b)
			kind, _ := rec.Number(v)
			if !yield(api.Entry{Id: k.B, Kind: int(kind)}) {
				return
			}
		}
	}
}
