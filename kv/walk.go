package kv

import (
	"bytes"
	"iter"
	"slices"

	"glean/api"
)

// Walk gives entries, rising.
func (s *Store) Walk(from, to []byte) iter.Seq2[[]byte, []byte] {
	return s.counted(s.entries.Walk(from, to))
}

// Prefix gives those whose keys begin so.
func (s *Store) Prefix(p []byte) iter.Seq2[[]byte, []byte] {
	return s.counted(s.entries.Walk(p, behind(p)))
}

// Dump tells all entries.
func (s *Store) Dump() []api.Pair {
	var all []api.Pair
	for k, v := range s.entries.Walk(nil, nil) {
		all = append(all, api.Pair{Key: k, Value: v})
	}
	return all
}

// counted gives what a walk does, and counts each time that it is ranged over, and each entry as it is given.
func (s *Store) counted(walk iter.Seq2[[]byte, []byte]) iter.Seq2[[]byte, []byte] {
	return func(yield func([]byte, []byte) bool) {
		s.count()
		for k, v := range walk {
			s.count()
			if !yield(k, v) {
				return
			}
		}
	}
}

// behind tells the first key that stands behind all those that begin with p; nil, if none does, as p has no byte that can grow.
func behind(p []byte) []byte {
	for i, b := range slices.Backward(p) {
		if b < 0xff {
			return append(bytes.Clone(p[:i]), b+1)
		}
	}
	return nil
}
