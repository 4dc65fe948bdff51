package dump_test

import (
	"bytes"
	"encoding/binary"
	"math/rand"
	"slices"
	"testing"

	"glean/api"
	"glean/dump"
	"glean/kv"
	"glean/sound"
)

const (
	top    = ^uint64(0)
	supply = 1_000_000_000_000_000_000
	// The most bytes of a dump, of a key and of a value, as the document numbers them.
	longest      = 4194304
	longestKey   = 64
	longestValue = 4096
)

// head tells how a dump of so many entries begins.
func head(n uint32) []byte { return binary.BigEndian.AppendUint32([]byte("GLND"), n) }

// counted tells the bytes of a list, with how many they are ahead of them.
func counted(b []byte) []byte {
	return append(binary.BigEndian.AppendUint32(nil, uint32(len(b))), b...)
}

// spelt tells the bytes of entries, in their order, as the chapter says them, by none of the project's calls.
func spelt(all []api.Pair) []byte {
	parts := [][]byte{head(uint32(len(all)))}
	for _, p := range all {
		parts = append(parts, counted(p.Key), counted(p.Value))
	}
	return slices.Concat(parts...)
}

// meant tells the entries of bytes, and whether a store has them, by none of the project's calls: it takes each list from its place, and spells what it found.
func meant(b []byte) ([]api.Pair, bool) {
	if len(b) < 8 || len(b) > longest {
		return nil, false
	}
	var all []api.Pair
	for at := 8; at < len(b); {
		var parts [2][]byte
		for i := range parts {
			if at+4 > len(b) {
				return nil, false
			}
			n := int(binary.BigEndian.Uint32(b[at:]))
			if at += 4 + n; at > len(b) {
				return nil, false
			}
			parts[i] = b[at-n : at]
		}
		all = append(all, api.Pair{Key: parts[0], Value: parts[1]})
	}
	for i, p := range all {
		if len(p.Key) < 1 || len(p.Key) > longestKey || len(p.Value) > longestValue || i > 0 && string(p.Key) <= string(all[i-1].Key) {
			return nil, false
		}
	}
	return all, bytes.Equal(spelt(all), b)
}

// laid tells a store in which these entries lie.
func laid(all []api.Pair) *kv.Store {
	s := kv.New()
	for _, p := range all {
		s.Set(p.Key, p.Value)
	}
	return s
}

// sorted tells entries in the order of their keys.
func sorted(all map[string]string) []api.Pair {
	var list []api.Pair
	for k, v := range all {
		list = append(list, api.Pair{Key: []byte(k), Value: []byte(v)})
	}
	slices.SortFunc(list, func(x, y api.Pair) int { return bytes.Compare(x.Key, y.Key) })
	return list
}

// drawnPairs draws entries of a store in which anything may lie, rising: keys that are near to one another, lists at their limits.
func drawnPairs(r *rand.Rand, most int) []api.Pair {
	all := map[string]string{}
	for range r.Intn(most + 1) {
		k := make([]byte, []int{1, 1, 2, 3, 9, 18, 63, 64}[r.Intn(8)])
		for i := range k {
			k[i] = []byte{0, 1, 'a', 'v', 0x7F, 0x80, 0xFF, byte(r.Intn(256))}[r.Intn(8)]
		}
		v := make([]byte, []int{0, 0, 1, 8, 16, 255, 256, r.Intn(600), r.Intn(600), 4095, 4096}[r.Intn(11)])
		r.Read(v)
		all[string(k)] = string(v)
	}
	return sorted(all)
}

// samePair tells whether two entries of a store are.
func samePair(x, y api.Pair) bool {
	return bytes.Equal(x.Key, y.Key) && bytes.Equal(x.Value, y.Value)
}

// wantExport fails unless Export tells that of a store.
func wantExport(t *testing.T, what string, s *kv.Store, want []byte) {
	t.Helper()
	if got, e := dump.Export(s); e != api.OK || !bytes.Equal(got, want) {
		t.Fatalf("P22.1: %s: %d bytes %.200x, %v, not %d bytes %.200x", what, len(got), got, e, len(want), want)
	}
}

// wantNoExport fails unless Export refuses a store, and tells nothing beside.
func wantNoExport(t *testing.T, what string, s *kv.Store) {
	t.Helper()
	if got, e := dump.Export(s); e != 221 || got != nil {
		t.Fatalf("P22.1: %s: %d bytes, %v", what, len(got), e)
	}
}

// wantRefused fails unless Import answers that error, and nothing beside it, and Rule that number.
func wantRefused(t *testing.T, what string, b []byte, want api.Errno, rule int) {
	t.Helper()
	if s, e := dump.Import(b); s != nil || e != want {
		t.Errorf("P22.2: %s: Import: %v, not %v", what, e, want)
	}
	if got := dump.Rule(b); got != rule {
		t.Errorf("P22.2: %s: Rule: %d, not %d", what, got, rule)
	}
}

// wantTaken fails unless Import tells a store of just these entries, without a journal, its Ops 0, and Rule that it is sound.
func wantTaken(t *testing.T, what string, b []byte, all []api.Pair) *kv.Store {
	t.Helper()
	s, e := dump.Import(b)
	if e != api.OK || s == nil {
		t.Fatalf("P22.2: %s: Import: %v", what, e)
	}
	if s.Ops() != 0 || s.Depth() != 0 {
		t.Fatalf("P22.2: %s: %d operations, %d journals", what, s.Ops(), s.Depth())
	}
	if got := s.Dump(); !slices.EqualFunc(got, all, samePair) {
		t.Fatalf("P22.2: %s: there lie %x, not %x", what, got, all)
	}
	if rule := dump.Rule(b); rule != 0 {
		t.Fatalf("P22.2: %s: Rule: %d", what, rule)
	}
	return s
}

// wantRead fails unless Import and Rule tell of bytes, of at most MaxDump, what the chapter does; it tells which rule is broken, and -1 of what is no dump.
func wantRead(t *testing.T, what string, b []byte) int {
	t.Helper()
	all, ok := meant(b)
	if !ok {
		wantRefused(t, what, b, 220, 0)
		return -1
	}
	rule := sound.Check(laid(all))
	if rule == 0 {
		wantTaken(t, what, b, all)
	} else {
		wantRefused(t, what, b, 222, rule)
	}
	return rule
}

// roomy tells the same bytes, with room behind them that isn't empty.
func roomy(b, behind []byte) []byte {
	return slices.Concat(b, behind, []byte{0xA5, 0xA5, 0xA5, 0xA5})[:len(b)]
}

// spoil writes over a list, and over the room behind it.
func spoil(b []byte) {
	b = b[:cap(b)]
	for i := range b {
		b[i] = 0x5A
	}
}
