package kv_test

import (
	"bytes"
	"testing"

	"glean/api"
	"glean/kv"
)

// notKeys tells lists of bytes that are no keys.
func notKeys() [][]byte {
	return [][]byte{nil, {}, make([]byte, api.MaxKey+1), bytes.Repeat([]byte("k"), api.MaxKey+1), make([]byte, 5000)}
}

// P6.1: what was set last lies there, until it is deleted.
func TestSetAndDelete(t *testing.T) {
	s := kv.New()
	if v, there := s.Get([]byte("a")); there || v != nil || s.Has([]byte("a")) || s.Delete([]byte("a")) {
		t.Errorf("P6.1: an empty store has %q, %t", v, there)
	}
	lay(t, s, "a", "1")
	lay(t, s, "ab", "2")
	lay(t, s, "a", "3")
	if v, there := s.Get([]byte("a")); !there || string(v) != "3" || !s.Has([]byte("a")) {
		t.Errorf("P6.1: Get behind a second Set: %q, %t", v, there)
	}
	if v, there := s.Get([]byte("ab")); !there || string(v) != "2" {
		t.Errorf("P6.1: Get of a key behind another one: %q, %t", v, there)
	}
	if s.Has([]byte("abc")) || s.Has([]byte("b")) {
		t.Error("P6.1: Has of what was never set")
	}
	take(t, s, "a")
	if v, there := s.Get([]byte("a")); there || v != nil || s.Has([]byte("a")) || s.Delete([]byte("a")) {
		t.Errorf("P6.1: behind Delete: %q, %t", v, there)
	}
	wantLies(t, "P6.1: one is left", s, "ab", "2")
	lay(t, s, "a", "4")
	wantLies(t, "P6.1: set again", s, "a", "4", "ab", "2")
}

// P6.1: a value of no bytes, nil or not, lies there.
func TestValuesOfNoBytes(t *testing.T) {
	for _, v := range [][]byte{nil, {}} {
		s := kv.New()
		lay(t, s, "a", "1")
		wantErr(t, "P6.1: Set of no bytes", s.Set([]byte("a"), v), api.OK)
		if got, there := s.Get([]byte("a")); !there || len(got) != 0 || !s.Has([]byte("a")) {
			t.Errorf("P6.1: Get of no bytes: %q, %t", got, there)
		}
		take(t, s, "a")
	}
}

// P6.1: keys of 1 and of MaxKey bytes are some, values of MaxValue bytes, too.
func TestAtTheLimits(t *testing.T) {
	s := kv.New()
	long := bytes.Repeat([]byte{255}, api.MaxKey)
	value := bytes.Repeat([]byte("v"), api.MaxValue)
	for _, k := range [][]byte{{0}, {255}, make([]byte, api.MaxKey), long} {
		wantErr(t, "P6.1: Set at the limits", s.Set(k, value), api.OK)
		if v, there := s.Get(k); !there || !bytes.Equal(v, value) {
			t.Errorf("P6.1: Get(%q): %d bytes, %t", k, len(v), there)
		}
	}
	if len(s.Dump()) != 4 {
		t.Errorf("P6.1: %d entries, not 4", len(s.Dump()))
	}
}

// P6.1: what is no key is refused, and too long a value; the key is looked at first. Nothing is changed by that.
func TestRefusedSets(t *testing.T) {
	value := make([]byte, api.MaxValue+1)
	for _, depth := range []int{0, 1, 3} {
		s := kv.New()
		lay(t, s, "a", "1")
		begin(t, s, depth)
		for _, k := range notKeys() {
			wantErr(t, "P6.1: Set of no key", s.Set(k, []byte("1")), api.ErrKVKey)
			wantErr(t, "P6.1: Set of no key and no bytes", s.Set(k, nil), api.ErrKVKey)
			wantErr(t, "P6.1: Set of no key and too long a value", s.Set(k, value), api.ErrKVKey)
		}
		wantErr(t, "P6.1: Set of too long a value", s.Set([]byte("a"), value), api.ErrKVValue)
		wantErr(t, "P6.1: Set of too long a value for a new key", s.Set([]byte("b"), value), api.ErrKVValue)
		wantErr(t, "P6.1: Set of a far too long value", s.Set([]byte("a"), make([]byte, 1<<20)), api.ErrKVValue)
		wantLies(t, "P6.1: behind refused Sets", s, "a", "1")
		for range depth {
			wantErr(t, "P6.2: Rollback of refused Sets", s.Rollback(), api.OK)
		}
		wantLies(t, "P6.5: behind refused Sets, taken back", s, "a", "1")
	}
}

// P6.1: Get, Has and Delete of what is no key find nothing, also beside keys that it begins with.
func TestAskedOfNoKey(t *testing.T) {
	for _, depth := range []int{0, 2} {
		s := kv.New()
		wantErr(t, "P6.1: Set", s.Set(make([]byte, api.MaxKey), []byte("1")), api.OK)
		wantErr(t, "P6.1: Set", s.Set(bytes.Repeat([]byte("k"), api.MaxKey), []byte("2")), api.OK)
		begin(t, s, depth)
		for _, k := range notKeys() {
			if v, there := s.Get(k); there || v != nil {
				t.Errorf("P6.1: Get of no key: %q, %t", v, there)
			}
			if s.Has(k) || s.Delete(k) {
				t.Error("P6.1: Has or Delete of no key finds something")
			}
		}
		if len(s.Dump()) != 2 || s.Ops() != 2+3*len(notKeys()) {
			t.Errorf("P6.1, P6.4: %d entries, Ops %d", len(s.Dump()), s.Ops())
		}
	}
}
