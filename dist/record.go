package dist

import (
	"glean/api"
	"glean/dec"
	"glean/keys"
	"glean/kv"
	"glean/rec"
)

// find reads the record under a key; zero and false, if there is none: no bytes are no record of any kind.
func find[R any](s *kv.Store, k api.Key, read func([]byte) (R, api.Errno)) (R, bool) {
	b, _ := s.Get(bytesOf(k))
	r, e := read(b)
	return r, e == api.OK
}

// lay lays a record's bytes under a key.
func lay(s *kv.Store, k api.Key, record []byte) { s.Set(bytesOf(k), record) }

// bytesOf tells a key's bytes; keys of this layer's kinds are never refused.
func bytesOf(k api.Key) []byte {
	b, _ := keys.Make(k)
	return b
}

// layPool lays the pool; nothing lies there of an empty one, so that a state has one spelling.
func layPool(s *kv.Store, d api.Dec) {
	k := api.Key{Kind: api.KeyPool}
	if dec.Zero(d) {
		s.Delete(bytesOf(k))
		return
	}
	lay(s, k, rec.PutPool(d))
}

// ownVal tells a validator whose Decs lie in memory of their own, normal, as an answer shares none with what was handed in.
func ownVal(v api.Validator) api.Validator {
	own := func(d api.Dec) api.Dec { return dec.Add(d, api.Dec{}) }
	v.Shares, v.Current = own(v.Shares), own(v.Current)
	v.Outstanding, v.Commission = own(v.Outstanding), own(v.Commission)
	return v
}
