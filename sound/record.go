package sound

import (
	"iter"

	"glean/api"
	"glean/keys"
	"glean/kv"
	"glean/rec"
)

// key tells a key's bytes; keys of the kinds and numbers that this package asks for are never refused.
func key(k api.Key) []byte {
	b, _ := keys.Make(k)
	return b
}

// lies tells whether something lies under a key.
func lies(s *kv.Store, k api.Key) bool { return s.Has(key(k)) }

// laid gives what lies under all keys of a kind, rising.
func laid(s *kv.Store, kind int) iter.Seq2[api.Key, []byte] {
	begin, _ := keys.Of(kind)
	return among(s.Prefix(begin), kind)
}

// among gives those entries whose keys are of a kind, as several kinds begin alike.
func among(all iter.Seq2[[]byte, []byte], kind int) iter.Seq2[api.Key, []byte] {
	return func(yield func(api.Key, []byte) bool) {
		for b, value := range all {
			if k, _ := keys.Read(b); k.Kind == kind && !yield(k, value) {
				return
			}
		}
	}
}

// number tells under how many keys of a kind something lies.
func number(s *kv.Store, kind int) int {
	count := 0
	for range laid(s, kind) {
		count++
	}
	return count
}

// record tells what lies under a key, and whether something does. Behind rule 1 all that lies there is read without an error.
func record[T any](s *kv.Store, k api.Key, read func([]byte) (T, api.Errno)) (T, bool) {
	b, there := s.Get(key(k))
	found, _ := read(b)
	return found, there
}

// records gives all records of a kind, with their keys, rising.
func records[T any](s *kv.Store, kind int, read func([]byte) (T, api.Errno)) iter.Seq2[api.Key, T] {
	return parsed(laid(s, kind), read)
}

// recordsOf gives those of one validator.
func recordsOf[T any](s *kv.Store, kind int, id uint64, read func([]byte) (T, api.Errno)) iter.Seq2[api.Key, T] {
	begin, _ := keys.Under(kind, id)
	return parsed(among(s.Prefix(begin), kind), read)
}

// parsed gives the records of what is given as bytes.
func parsed[T any](all iter.Seq2[api.Key, []byte], read func([]byte) (T, api.Errno)) iter.Seq2[api.Key, T] {
	return func(yield func(api.Key, T) bool) {
		for k, value := range all {
			if found, _ := read(value); !yield(k, found) {
				return
			}
		}
	}
}

// params tells the params that lie there.
func params(s *kv.Store) api.Params {
	p, _ := record(s, api.Key{Kind: api.KeyParams}, rec.Params)
	return p
}

// chain tells where the chain stands.
func chain(s *kv.Store) api.Chain {
	c, _ := record(s, api.Key{Kind: api.KeyChain}, rec.Chain)
	return c
}

// validator tells a validator's record, and whether there is one.
func validator(s *kv.Store, id uint64) (api.Validator, bool) {
	return record(s, api.Key{Kind: api.KeyVal, A: id}, rec.Val)
}

// validators gives all of them, each with its id as its key's A.
func validators(s *kv.Store) iter.Seq2[api.Key, api.Validator] {
	return records(s, api.KeyVal, rec.Val)
}
