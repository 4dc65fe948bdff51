package dump_test

import (
	"bytes"
	"encoding/binary"
	"math/rand"
	"slices"
	"testing"

	"glean/api"
	"glean/kv"
	"glean/rec"
)

// P22.2: the chapter's example; a state of two entries, and one in which something of each kind lies.
func TestImportByHand(t *testing.T) {
	wantRefused(t, "of an empty store", []byte{0x47, 0x4C, 0x4E, 0x44, 0, 0, 0, 0}, 222, 1)
	params := "\x00\x00\x00\x01p\x00\x00\x00\x50"
	for _, n := range []byte{2, 9, 3, 0, 0, 0, 0, 0, 0, 16} {
		params += "\x00\x00\x00\x00\x00\x00\x00" + string(rune(n))
	}
	chain := "\x00\x00\x00\x01c\x00\x00\x00\x10\x00\x00\x00\x00\x00\x00\x00\x00\x00\x00\x00\x00\x00\x00\x00\x01"
	b := []byte("GLND\x00\x00\x00\x02" + chain + params)
	s := wantTaken(t, "params and a chain", b, []api.Pair{{Key: []byte("c"), Value: []byte(chain[9:])}, {Key: []byte("p"), Value: []byte(params[9:])}})
	wantExport(t, "params and a chain", s, b)
	wantRefused(t, "params alone", []byte("GLND\x00\x00\x00\x01"+params), 222, 1)
	wantRefused(t, "the chain behind the params", []byte("GLND\x00\x00\x00\x02"+params+chain), 220, 0)
	for _, state := range []*kv.Store{bare(), grown()} {
		wantTaken(t, "a sound state", spelt(state.Dump()), state.Dump())
	}
}

// P22.2: of each rule a state that breaks it; of several the first one is told.
func TestEachRule(t *testing.T) {
	for i, first := range faults() {
		for j, second := range faults() {
			s := grown()
			first(s)
			if i != j {
				second(s)
			}
			wantRefused(t, "a state that isn't sound", spelt(s.Dump()), 222, min(i, j)+1)
		}
	}
}

// P22.2: what ends too early is refused at each place, and what goes on behind it, by any bytes.
func TestOtherLengths(t *testing.T) {
	for _, all := range [][]api.Pair{nil, bare().Dump(), grown().Dump(), {{Key: []byte("a")}}} {
		b := spelt(all)
		for n := range b {
			wantRefused(t, "an end too early", b[:n:n], 220, 0)
		}
		for _, more := range []int{1, 2, 4, 8, 9, 25, 1000} {
			for _, x := range []byte{0, 1, 0x47, 0xFF} {
				wantRefused(t, "more behind it", append(bytes.Clone(b), bytes.Repeat([]byte{x}, more)...), 220, 0)
			}
		}
		wantRefused(t, "an entry behind it", append(bytes.Clone(b), 0, 0, 0, 1, 0xFF, 0, 0, 0, 0), 220, 0)
		wantRefused(t, "twice", append(bytes.Clone(b), b...), 220, 0)
		wantRead(t, "as it is", b)
	}
	wantRefused(t, "no bytes", nil, 220, 0)
	wantRefused(t, "an empty list", []byte{}, 220, 0)
}

// P22.2: the first bytes are the mark, each bit of it.
func TestMark(t *testing.T) {
	b := spelt(bare().Dump())
	for bit := range 32 {
		b[bit/8] ^= 1 << (bit % 8)
		wantRefused(t, "another mark", b, 220, 0)
		b[bit/8] ^= 1 << (bit % 8)
	}
	wantTaken(t, "the mark", b, bare().Dump())
	for _, text := range []string{"GLN1", "DNLG", "glnd", "\x00\x00\x00\x00"} {
		wantRefused(t, "another mark", []byte(text+"\x00\x00\x00\x00"), 220, 0)
		wantRefused(t, "another mark", append([]byte(text), b[4:]...), 220, 0)
	}
}

// P22.2: a count that isn't just that of the entries is refused, without ado, however great.
func TestCounts(t *testing.T) {
	for _, all := range [][]api.Pair{nil, bare().Dump(), grown().Dump()} {
		b, was := spelt(all), uint32(len(all))
		for _, n := range []uint32{0, 1, 2, 3, was - 1, was + 1, was + 256, 255, 256, 1 << 16, 1 << 24, 1<<24 + was, 1 << 31, 1<<31 + was, 1<<32 - 1} {
			if n != was {
				binary.BigEndian.PutUint32(b[4:], n)
				wantRefused(t, "another count", b, 220, 0)
			}
		}
	}
}

// P22.2: a length that tells of more than there is, or of less, of a key or of a value.
func TestLengths(t *testing.T) {
	all := bare().Dump()
	b := spelt(all)
	for at := 8; at < len(b); {
		was := binary.BigEndian.Uint32(b[at:])
		for _, n := range []uint32{0, 1, was - 1, was + 1, 64, 65, 255, 4096, 4097, uint32(len(b)), 1 << 24, 1<<24 + was, 1<<31 - 1, 1 << 31, 1<<31 + was, 1<<32 - 4, 1<<32 - 1} {
			if n != was {
				binary.BigEndian.PutUint32(b[at:], n)
				wantRefused(t, "another length", b, 220, 0)
			}
		}
		binary.BigEndian.PutUint32(b[at:], was)
		at += 4 + int(was)
	}
	wantTaken(t, "as it is", b, all)
}

// P22.2: keys have 1 to 64 bytes, values 4096 at most; what holds one more is no store's, whatever lies beside it.
func TestLimitsOfEntries(t *testing.T) {
	for _, x := range []struct{ key, value, rule int }{
		{1, 0, 1}, {64, 0, 1}, {1, 4096, 1}, {64, 4096, 1}, {0, 0, -1}, {0, 5, -1}, {65, 0, -1}, {65, 4096, -1}, {256, 0, -1}, {1, 4097, -1}, {64, 4097, -1}, {1, 8192, -1}, {300000, 70000, -1},
	} {
		for _, fill := range []byte{0, 'a', 'z', 0xFF} {
			p := api.Pair{Key: bytes.Repeat([]byte{fill}, x.key), Value: bytes.Repeat([]byte{fill}, x.value)}
			if got := wantRead(t, "one entry", spelt([]api.Pair{p})); got != x.rule {
				t.Errorf("P22.2: %d bytes for %d: %d, not %d", x.value, x.key, got, x.rule)
			}
			list := append(bare().Dump(), p)
			slices.SortFunc(list, func(x, y api.Pair) int { return bytes.Compare(x.Key, y.Key) })
			if got := wantRead(t, "one entry among others", spelt(list)); got != x.rule {
				t.Errorf("P22.2: %d bytes for %d among others: %d, not %d", x.value, x.key, got, x.rule)
			}
		}
	}
}

// P22.2: keys rise; the same one twice, or one behind a greater one, isn't what a store has, whatever lies there.
func TestKeysRise(t *testing.T) {
	for _, x := range []struct {
		keys []string
		rise bool
	}{
		{[]string{"a", "b"}, true}, {[]string{"b", "a"}, false}, {[]string{"a", "a"}, false}, {[]string{"a", "ab"}, true}, {[]string{"ab", "a"}, false},
		{[]string{"a\xFF", "b"}, true}, {[]string{"b", "a\xFF"}, false}, {[]string{"a", "a\x00"}, true}, {[]string{"a\x00", "a"}, false}, {[]string{"\x7F", "\x80"}, true}, {[]string{"\x80", "\x7F"}, false},
		{[]string{"\x00", "\x00\x00"}, true}, {[]string{"\x00\x00", "\x00"}, false}, {[]string{"\xFF", "\xFF\xFF"}, true},
		{[]string{"a", "b", "c"}, true}, {[]string{"a", "c", "b"}, false}, {[]string{"b", "a", "c"}, false}, {[]string{"a", "b", "a"}, false}, {[]string{"a", "b", "b"}, false}, {[]string{"a", "a", "b"}, false}, {[]string{"c", "a", "b"}, false},
	} {
		var all []api.Pair
		for i, k := range x.keys {
			all = append(all, api.Pair{Key: []byte(k), Value: []byte{byte(i)}})
		}
		want, rule := api.Errno(222), 1
		if !x.rise {
			want, rule = 220, 0
		}
		wantRefused(t, "keys", spelt(all), want, rule)
	}
	for i := range len(bare().Dump()) {
		all := bare().Dump()
		wantRefused(t, "one twice", spelt(slices.Insert(slices.Clone(all), i, all[i])), 220, 0)
	}
	all := grown().Dump()
	for i := range len(all) - 1 {
		all[i], all[i+1] = all[i+1], all[i]
		wantRefused(t, "two the other way round", spelt(all), 220, 0)
		all[i], all[i+1] = all[i+1], all[i]
	}
	slices.Reverse(all)
	wantRefused(t, "falling", spelt(all), 220, 0)
}

// great tells a sound state whose dump has just so many bytes: users with a coin each, and heights of tombs of nobody, which fill up.
func great(t *testing.T, size int) *kv.Store {
	t.Helper()
	const user, tomb = 4 + 9 + 4 + 16, 4 + 9 + 4 + 8
	s := bare()
	left, tombs := size-len(spelt(s.Dump())), 0
	for left%user != 0 {
		s.Set(at(api.KeyTomb, uint64(16+tombs)), rec.PutNumber(7))
		left, tombs = left-tomb, tombs+1
	}
	for i := range left / user {
		s.Set(at(api.KeyAccount, uint64(16+i)), rec.PutAccount(api.Account{Coins: 1}))
	}
	if n := len(spelt(s.Dump())); n != size {
		t.Fatalf("the test's own state has %d bytes, not %d", n, size)
	}
	return s
}

// P22.2: MaxDump bytes may be taken; of one more it is ErrDumpLong, whatever they are.
func TestImportUpToMaxDump(t *testing.T) {
	for _, size := range []int{longest - 1, longest} {
		s := great(t, size)
		b := spelt(s.Dump())
		wantExport(t, "a great state", wantTaken(t, "a great state", b, s.Dump()), b)
	}
	wantRefused(t, "a sound state that is too great", spelt(great(t, longest+1).Dump()), 221, 0)
	for _, value := range []int{4096, 0} {
		wantRefused(t, "as long as may be", spelt(filled(longest, value)), 222, 1)
		wantRefused(t, "as long as may be, without the last byte", spelt(filled(longest, value))[:longest-1], 220, 0)
		wantRefused(t, "one more", spelt(filled(longest+1, value)), 221, 0)
	}
	for _, begin := range [][]byte{nil, head(0), head(1), spelt(bare().Dump()), head(1<<32 - 1)} {
		for _, size := range []int{longest - 1, longest, longest + 1, longest + 2, 2 * longest} {
			b := make([]byte, size)
			copy(b, begin)
			want := api.Errno(220)
			if size > longest {
				want = 221
			}
			wantRefused(t, "a long one", b, want, 0)
		}
	}
}

// P22.2: bytes that are near to a dump's, and bytes that are near to nothing.
func TestImportOfDrawnBytes(t *testing.T) {
	r := rand.New(rand.NewSource(222))
	told := map[int]int{}
	for k := range 12000 {
		b := make([]byte, r.Intn(300))
		r.Read(b)
		switch k % 6 {
		case 0:
			b = append([]byte("GLND\x00\x00\x00"), b...)
		case 1, 2:
			b = spelt(drawnPairs(r, 4))
		case 3, 4:
			b = spelt(bare().Dump())
		}
		for range r.Intn(3) {
			if len(b) > 0 {
				b[r.Intn(len(b))] = []byte{0, 1, 2, 'a', 0xFF, byte(r.Intn(256))}[r.Intn(6)]
			}
		}
		if k%9 == 0 {
			b = b[:r.Intn(len(b)+1)]
		}
		told[wantRead(t, "drawn bytes", b)]++
		if t.Failed() {
			t.Fatalf("P22.2: of % x", b)
		}
	}
	for _, rule := range []int{-1, 0, 1, 2} {
		if told[rule] < 100 {
			t.Errorf("the drawn bytes are seldom of %d: %v", rule, told)
		}
	}
}
