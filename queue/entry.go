package queue

import (
	"glean/api"
	"glean/kv"
	"glean/rec"
)

// form: what the entries of one kind have of their own; all else is done alike for both.
type form[R any] struct {
	kind  int
	put   func(R) []byte
	read  func([]byte) (R, api.Errno)
	trail func(R) trail
}

// trail: by what an entry is found beside its number: who began it, which validator it left, when it comes due.
type trail struct{ del, val, due uint64 }

// unbondings tells the form of unbondings.
func unbondings() form[api.Unbonding] {
	return form[api.Unbonding]{api.KeyUnbonding, rec.PutUnbonding, rec.Unbonding, func(u api.Unbonding) trail {
		return trail{u.Del, u.Val, u.Due}
	}}
}

// moves tells the form of moves.
func moves() form[api.Move] {
	return form[api.Move]{api.KeyMove, rec.PutMove, rec.Move, func(m api.Move) trail {
		return trail{m.Del, m.Src, m.Due}
	}}
}

// begin lays a new entry and all that leads to it.
func begin[R any](s *kv.Store, f form[R], r R) uint64 {
	id := number(s)
	lay(s, f, id, r)
	t := f.trail(r)
	for _, k := range t.marks(id) {
		s.Set(k, rec.PutNumber(uint64(f.kind)))
	}
	t.count(s, Count(s, t.del, t.val)+1)
	return id
}

// lay lays an entry's record.
func lay[R any](s *kv.Store, f form[R], id uint64, r R) {
	s.Set(key(f.kind, id, 0), f.put(r))
}

// find tells an entry's record, if there is one of that kind.
func find[R any](s *kv.Store, f form[R], id uint64) (R, bool) {
	b, there := s.Get(key(f.kind, id, 0))
	r, _ := f.read(b) // no bytes are no record: what isn't there is zero
	return r, there
}

// change lays an entry's record anew; set doesn't touch its trail, so that all that leads to it stays.
func change[R any](s *kv.Store, f form[R], id uint64, set func(*R)) bool {
	r, there := find(s, f, id)
	if there {
		set(&r)
		lay(s, f, id, r)
	}
	return there
}

// end takes an entry away, and all that leads to it.
func end[R any](s *kv.Store, f form[R], id uint64) bool {
	r, there := find(s, f, id)
	if !there {
		return false
	}
	s.Delete(key(f.kind, id, 0))
	t := f.trail(r)
	for _, k := range t.marks(id) {
		s.Delete(k)
	}
	t.count(s, Count(s, t.del, t.val)-1)
	return true
}
