package sound

import (
	"glean/api"
	"glean/dec"
	"glean/keys"
	"glean/kv"
	"glean/rec"
)

// recordsRead: rule 1.
func recordsRead(s *kv.Store) bool {
	all := forms()
	for b, value := range s.Walk(nil, nil) {
		k, e := keys.Read(b)
		if e != api.OK || !all[k.Kind](value) {
			return false
		}
	}
	return lies(s, api.Key{Kind: api.KeyParams}) && lies(s, api.Key{Kind: api.KeyChain})
}

// forms tells of each kind of keys which bytes may lie under one.
func forms() [api.KeyCount + 1]func([]byte) bool {
	return [...]func([]byte) bool{
		api.KeyParams:     reads(rec.Params),
		api.KeyChain:      reads(rec.Chain),
		api.KeyPool:       isPool,
		api.KeyAccount:    reads(rec.Account),
		api.KeyVal:        reads(rec.Val),
		api.KeyDelegation: reads(rec.Delegation),
		api.KeyHistory:    reads(rec.History),
		api.KeyCut:        reads(rec.Cut),
		api.KeyTomb:       reads(rec.Number),
		api.KeyPower:      isEmpty,
		api.KeyBonded:     isEmpty,
		api.KeyUnbonding:  reads(rec.Unbonding),
		api.KeyMove:       reads(rec.Move),
		api.KeyDue:        isKind,
		api.KeySource:     isKind,
		api.KeyHolds:      isEmpty,
		api.KeyCount:      reads(rec.Number),
	}
}

// reads makes the function that tells whether bytes are a record.
func reads[T any](read func([]byte) (T, api.Errno)) func([]byte) bool {
	return func(b []byte) bool {
		_, e := read(b)
		return e == api.OK
	}
}

func isEmpty(b []byte) bool { return len(b) == 0 }

// isPool tells whether bytes are a pool that may lie there: of 0 none does, so that a state has one spelling.
func isPool(b []byte) bool {
	d, e := rec.Pool(b)
	return e == api.OK && !dec.Zero(d)
}

// isKind tells whether bytes are the number of a kind of entries.
func isKind(b []byte) bool {
	n, e := rec.Number(b)
	return e == api.OK && (n == api.KeyUnbonding || n == api.KeyMove)
}
