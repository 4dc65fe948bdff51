package f1

import (
	"glean/api"
	"glean/kv"
	"glean/rec"
)

// find tells a period's history, and whether one lies there.
func find(s *kv.Store, id, period uint64) (api.History, bool) {
	b, there := s.Get(key(api.KeyHistory, id, period))
	h, _ := rec.History(b) // no bytes are no record: what isn't there is the zero history
	return h, there
}

// ratio tells a history's Ratio.
func ratio(s *kv.Store, id, period uint64) api.Dec {
	h, _ := find(s, id, period)
	return h.Ratio
}

// lay lays a history; one to which nothing refers goes, as no claim can ask for it.
func lay(s *kv.Store, id, period uint64, h api.History) {
	k := key(api.KeyHistory, id, period)
	if h.Refs == 0 {
		s.Delete(k)
		return
	}
	s.Set(k, rec.PutHistory(h))
}

// refer makes a history's Refs one greater.
func refer(s *kv.Store, id, period uint64) {
	h, _ := find(s, id, period)
	h.Refs++
	lay(s, id, period, h)
}

// letGo makes them one less; of a history that isn't there nothing is laid.
func letGo(s *kv.Store, id, period uint64) {
	if h, there := find(s, id, period); there {
		h.Refs--
		lay(s, id, period, h)
	}
}
