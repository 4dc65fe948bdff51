package sound_test

import (
	"bytes"
	"testing"

	"glean/api"
	"glean/keys"
	"glean/kv"
	"glean/rec"
	"glean/sound"
)

// P19.3: of an empty store.
func TestEmptyStore(t *testing.T) {
	wantRule(t, "an empty store", kv.New(), 1)
}

// P19.2: what the other tests begin with holds all rules, the one with something of each kind.
func TestSoundStates(t *testing.T) {
	wantRule(t, "a plain state", plain(), 0)
	wantRule(t, "a grown state", grown(), 0)
	if got := kindsIn(grown()); len(got) != 17 {
		t.Errorf("the test's own state has keys of %v alone", got)
	}
	s := kv.New()
	s.Set(at(api.KeyParams), rec.PutParams(fit()))
	wantRule(t, "params alone", s, 1)
	s.Set(at(api.KeyChain), rec.PutChain(api.Chain{}))
	wantRule(t, "params and a chain", s, 0)
	s.Delete(at(api.KeyParams))
	wantRule(t, "a chain alone", s, 1)
}

// P19.2, rule 1: bytes that are no key.
func TestNoKeys(t *testing.T) {
	long := bytes.Repeat([]byte{'v'}, 64)
	for _, k := range [][]byte{{0}, {9}, {0xff}, {'x'}, []byte("pp"), []byte("p\x00"), []byte("c\x00"), []byte("m\x00"), {'a'}, {'v'}, long, long[:63], long[:18], long[:10], long[:9]} {
		s := grown()
		s.Set(k, nil)
		wantRule(t, "no key", s, 1)
		s = grown()
		s.Set(k, rec.PutNumber(12))
		wantRule(t, "no key, with a number", s, 1)
	}
	for _, p := range grown().Dump() {
		for _, k := range [][]byte{append(bytes.Clone(p.Key), 0), p.Key[:len(p.Key)-1], append([]byte{p.Key[0] ^ 0x80}, p.Key[1:]...)} {
			s := grown()
			if s.Set(k, p.Value) == api.OK {
				wantRule(t, "a key that is longer, shorter or of another mark", s, 1)
			}
		}
	}
}

// P19.2, rule 1: of each kind, bytes that are no record: shorter, longer, none, another spelling.
func TestNoRecords(t *testing.T) {
	for _, p := range grown().Dump() {
		values := [][]byte{append(bytes.Clone(p.Value), 0), append([]byte{0}, p.Value...), make([]byte, 4096)}
		if len(p.Value) > 0 {
			values = append(values, nil, p.Value[1:], p.Value[:len(p.Value)-1])
		}
		for _, v := range values {
			s := grown()
			s.Set(p.Key, v)
			wantRule(t, "no record", s, 1)
		}
	}
	vals, _ := grown().Get(at(api.KeyVal, 18))
	jailed, bonded := 17+int(vals[16]), 17+int(vals[16])+9 // where both bools stand: two numbers and a Dec lie ahead of them
	wantRules(t, grown, []fault{
		{1, "a bool that is 2", func(s *kv.Store) { set(s, at(api.KeyVal, 18), jailed, 2) }},
		{1, "another bool that is 2", func(s *kv.Store) { set(s, at(api.KeyVal, 18), bonded, 2) }},
		{6, "a bool that is 1", func(s *kv.Store) { set(s, at(api.KeyVal, 18), jailed, 1) }},
		{6, "another bool that is 0", func(s *kv.Store) { set(s, at(api.KeyVal, 18), bonded, 0) }},
		{1, "a Dec with a nought ahead", func(s *kv.Store) { set(s, at(api.KeyPool), 1, 0) }},
		{1, "a pool of 0", func(s *kv.Store) { s.Set(at(api.KeyPool), rec.PutPool(api.Dec{})) }},
		{10, "no pool", func(s *kv.Store) { s.Delete(at(api.KeyPool)) }},
		{10, "a pool of a hair", func(s *kv.Store) { s.Set(at(api.KeyPool), rec.PutPool(parsed(hair))) }},
		{1, "no params", func(s *kv.Store) { s.Delete(at(api.KeyParams)) }},
		{1, "no chain", func(s *kv.Store) { s.Delete(at(api.KeyChain)) }},
	})
}

// set writes over a byte of what lies under a key.
func set(s *kv.Store, key []byte, place int, x byte) {
	b, _ := s.Get(key)
	b[place] = x
	s.Set(key, b)
}

// P19.2, rule 1: under KeyPower, KeyBonded and KeyHolds no bytes; under KeyDue and KeySource a kind of entries; under KeyTomb and KeyCount any number.
func TestMarksAndNumbers(t *testing.T) {
	for _, p := range grown().Dump() {
		k, _ := keys.Read(p.Key)
		for _, n := range []uint64{0, 1, 11, 12, 13, 14, 1<<32 | 12, 12 << 56, top} {
			s := grown()
			s.Set(p.Key, rec.PutNumber(n))
			got := sound.Check(s)
			switch {
			case k.Kind == api.KeyTomb:
				wantRule(t, "a tomb of another height", s, 0)
			case k.Kind == api.KeyCount && got != 0, (k.Kind == api.KeyDue || k.Kind == api.KeySource) && (n == 12 || n == 13) && got != 0:
				wantRule(t, "another count, or kind of an entry", s, 11)
			case got != 0:
				wantRule(t, "a number", s, 1)
			case !bytes.Equal(p.Value, rec.PutNumber(n)):
				t.Errorf("P19.2: %d under %+v is sound", n, k)
			}
		}
	}
}
