package kv

import (
	"bytes"
	"slices"

	"glean/api"
)

// journal: what takes back each change since it began, the first one's first.
type journal struct{ back []func() }

// Begin begins a journal.
func (s *Store) Begin() api.Errno {
	if s.Depth() == api.MaxDepth {
		return api.ErrKVDepth
	}
	s.journals = append(s.journals, journal{})
	return api.OK
}

// Commit keeps what was done since.
func (s *Store) Commit() api.Errno {
	if s.Depth() == 0 {
		return api.ErrKVDepth
	}
	s.note(s.end().back...)
	return api.OK
}

// Rollback takes it back.
func (s *Store) Rollback() api.Errno {
	if s.Depth() == 0 {
		return api.ErrKVDepth
	}
	// The last change goes first, as each was done to what those ahead of it had left.
	for _, back := range slices.Backward(s.end().back) {
		back()
	}
	return api.OK
}

// Depth tells how many journals are under way.
func (s *Store) Depth() int { return len(s.journals) }

// end ends the innermost journal, of which there must be one, and tells it. Its place is cleared, so that nothing of it is kept.
func (s *Store) end() journal {
	last := len(s.journals) - 1
	ended := s.journals[last]
	s.journals = slices.Delete(s.journals, last, last+1)
	return ended
}

// remember is called ahead of a change of a key: nothing needs to be taken back where no journal is under way.
func (s *Store) remember(k []byte) {
	if s.Depth() > 0 {
		s.note(s.restorer(k))
	}
}

// note has the innermost journal, if there is one, keep what takes changes back.
func (s *Store) note(back ...func()) {
	if depth := s.Depth(); depth > 0 {
		innermost := &s.journals[depth-1]
		innermost.back = append(innermost.back, back...)
	}
}

// restorer makes what lets a key lie again as it lies now. It goes past Set and Delete: taking back is neither counted nor noted.
func (s *Store) restorer(k []byte) func() {
	key := bytes.Clone(k)
	value, there := s.entries.Get(key)
	if !there {
		return func() { s.entries.Delete(key) }
	}
	return func() { s.entries.Set(key, value) }
}
