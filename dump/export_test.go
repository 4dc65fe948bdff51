package dump_test

import (
	"bytes"
	"math/rand"
	"slices"
	"testing"

	"glean/api"
	"glean/kv"
)

// P22.1: the chapter's example, and some entries, byte by byte.
func TestExportByHand(t *testing.T) {
	wantExport(t, "an empty store", kv.New(), []byte{0x47, 0x4C, 0x4E, 0x44, 0, 0, 0, 0})
	s := kv.New()
	s.Set([]byte("b"), nil)
	wantExport(t, "an empty value", s, []byte("GLND\x00\x00\x00\x01\x00\x00\x00\x01b\x00\x00\x00\x00"))
	s.Set([]byte("ab"), []byte{7})
	s.Set([]byte{0}, []byte("xyz"))
	s.Set([]byte("a"), []byte{0, 0})
	want := "GLND\x00\x00\x00\x04" +
		"\x00\x00\x00\x01\x00" + "\x00\x00\x00\x03xyz" +
		"\x00\x00\x00\x01a" + "\x00\x00\x00\x02\x00\x00" +
		"\x00\x00\x00\x02ab" + "\x00\x00\x00\x01\x07" +
		"\x00\x00\x00\x01b" + "\x00\x00\x00\x00"
	wantExport(t, "four entries", s, []byte(want))
}

// P22.1: lengths of each number of bytes, and counts of them.
func TestExportOfLengths(t *testing.T) {
	for _, n := range []int{1, 2, 63, 64} {
		for _, m := range []int{0, 1, 127, 128, 255, 256, 257, 4095, 4096} {
			p := []api.Pair{{Key: bytes.Repeat([]byte{0xFF}, n), Value: bytes.Repeat([]byte{0xA5}, m)}}
			wantExport(t, "one entry", laid(p), spelt(p))
		}
	}
	for _, n := range []int{2, 32, 33, 255, 256, 257, 65535, 65536, 70000} {
		p := numbered(n, nil)
		wantExport(t, "many entries", laid(p), spelt(p))
	}
}

// numbered tells so many entries, rising, each with that value.
func numbered(n int, value []byte) []api.Pair {
	var all []api.Pair
	for i := range n {
		all = append(all, api.Pair{Key: []byte{byte(i >> 16), byte(i >> 8), byte(i)}, Value: value})
	}
	return all
}

// P22.1: whatever lies there, be it sound or not, laid in whatever order.
func TestExportOfAnything(t *testing.T) {
	r := rand.New(rand.NewSource(221))
	for range 1500 {
		all := drawnPairs(r, 1<<r.Intn(8))
		mixed := slices.Clone(all)
		r.Shuffle(len(mixed), func(i, j int) { mixed[i], mixed[j] = mixed[j], mixed[i] })
		s := kv.New()
		for _, p := range mixed {
			s.Set(p.Key, []byte("another value"))
			s.Set(append(slices.Clone(p.Key[:len(p.Key)-1]), 'z'), nil)
		}
		for _, p := range mixed {
			s.Delete(append(slices.Clone(p.Key[:len(p.Key)-1]), 'z'))
		}
		for _, p := range mixed {
			s.Set(p.Key, p.Value)
		}
		wantExport(t, "drawn entries", s, spelt(all))
	}
}

// filled tells entries whose dump has just so many bytes: as many as fit of values of that length, and a last one that fills up.
func filled(size, value int) []api.Pair {
	each := 4 + 3 + 4 + value
	n := (size - 8) / each
	if (size-8)%each < 4+3+4 {
		n-- // what is left is too little for an entry: the last one takes more
	}
	all := numbered(n, make([]byte, value))
	left := size - 8 - n*each
	for left > 0 {
		v := min(left-4-3-4, longestValue)
		if over := left - (4 + 3 + 4 + v); over > 0 && over < 4+3+4 {
			v -= 4 + 3 + 4
		}
		i := len(all)
		all = append(all, api.Pair{Key: []byte{byte(i >> 16), byte(i >> 8), byte(i)}, Value: make([]byte, v)})
		left -= 4 + 3 + 4 + v
	}
	return all
}

// P22.1: MaxDump bytes are told, and not one more, of few great entries and of many small ones.
func TestExportUpToMaxDump(t *testing.T) {
	for _, value := range []int{4096, 1000, 17, 0} {
		for _, size := range []int{longest - 1, longest} {
			p := filled(size, value)
			want := spelt(p)
			if len(want) != size {
				t.Fatalf("the test's own entries have %d bytes, not %d", len(want), size)
			}
			wantExport(t, "as much as may be", laid(p), want)
		}
		for _, size := range []int{longest + 1, longest + 8, longest + 5000} {
			wantNoExport(t, "too much", laid(filled(size, value)))
		}
	}
}

// P22.1: what is past MaxDump is refused as a whole, wherever it is: at the first entries, at the last one, in a key alone.
func TestExportOfTooMuch(t *testing.T) {
	s := laid(filled(longest, 4096))
	wantExport(t, "as much as may be", s, spelt(s.Dump()))
	s.Begin()
	s.Set([]byte{0xFF}, nil)
	wantNoExport(t, "an entry behind it", s)
	s.Rollback()
	s.Begin()
	s.Delete([]byte{0, 0, 0})
	s.Set([]byte{0, 0, 0, 0}, make([]byte, 4096))
	wantNoExport(t, "a longer key", s)
	s.Set([]byte{0, 0, 0, 0}, make([]byte, 4095))
	wantExport(t, "a longer key, a shorter value", s, spelt(s.Dump()))
	s.Rollback()
	wantExport(t, "as it was", s, spelt(s.Dump()))
	wantNoExport(t, "much too much", laid(numbered(20000, make([]byte, 4096))))
	wantNoExport(t, "much too many", laid(numbered(500000, nil)))
}

// P22.1: what lies there now is told, whatever journals are under way.
func TestExportWithinJournals(t *testing.T) {
	s := kv.New()
	lay := func(k, v string) { s.Set([]byte(k), []byte(v)) }
	want := func(what string, all map[string]string) {
		t.Helper()
		wantExport(t, what, s, spelt(sorted(all)))
	}
	lay("a", "1")
	s.Begin()
	lay("a", "2")
	lay("b", "3")
	want("within a journal", map[string]string{"a": "2", "b": "3"})
	s.Begin()
	s.Delete([]byte("a"))
	want("within two", map[string]string{"b": "3"})
	s.Rollback()
	want("behind the inner one", map[string]string{"a": "2", "b": "3"})
	s.Rollback()
	want("behind both", map[string]string{"a": "1"})
}

// P22.1, DOC.md, what holds everywhere, 3: Export changes nothing of a store: neither what lies there, nor its journals, nor the count of its operations.
func TestExportChangesNothing(t *testing.T) {
	for _, n := range []int{0, 1, 40, 1000} {
		for depth := range 3 {
			s := laid(numbered(n, []byte("x")))
			for i := range depth {
				s.Begin()
				s.Set([]byte{0, 0, byte(i)}, []byte("changed"))
			}
			was, ops := s.Dump(), s.Ops()
			wantExport(t, "once", s, spelt(was))
			wantExport(t, "twice", s, spelt(was))
			if s.Ops() != ops || s.Depth() != depth || !slices.EqualFunc(s.Dump(), was, samePair) {
				t.Errorf("P22.1: behind Export: %d operations, not %d; %d journals, not %d", s.Ops(), ops, s.Depth(), depth)
			}
			for range depth {
				s.Rollback()
			}
			if !slices.EqualFunc(s.Dump(), numbered(n, []byte("x")), samePair) {
				t.Error("P22.1: Export has changed a journal")
			}
		}
	}
	s := laid(filled(longest+1, 4096))
	ops := s.Ops()
	wantNoExport(t, "too much", s)
	if s.Ops() != ops || s.Depth() != 0 {
		t.Error("P22.1: Export that was refused has changed something")
	}
}
