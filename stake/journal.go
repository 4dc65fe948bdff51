package stake

import (
	"glean/api"
	"glean/kv"
)

// journal begins one for a call, and tells what ends it: deferred, that takes back all that the call has changed, if it ends with an error.
func journal(s *kv.Store) func(*api.Errno) {
	if s.Begin() != api.OK {
		return memory(s)
	}
	return func(e *api.Errno) {
		if *e != api.OK {
			s.Rollback()
			return
		}
		s.Commit()
	}
}

// memory does what a journal does, by a copy: the caller may have as many journals under way as a store takes, and an error changes nothing then, either.
func memory(s *kv.Store) func(*api.Errno) {
	was := s.Copy()
	return func(e *api.Errno) {
		if *e != api.OK {
			restore(s, was)
		}
	}
}

// restore has lie in a store what lies in another one.
func restore(s, was *kv.Store) {
	for _, p := range s.Dump() {
		if !was.Has(p.Key) {
			s.Delete(p.Key)
		}
	}
	for _, p := range was.Dump() {
		s.Set(p.Key, p.Value)
	}
}
