package genesis_test

import (
	"bytes"
	"encoding/binary"
	"math/rand"
	"testing"

	"glean/api"
	"glean/genesis"
)

// P21.2: bytes of a genesis of each size within the limits.
func TestDecode(t *testing.T) {
	for _, g := range []api.Genesis{{}, first(), many(256, 64), many(256, 0), many(0, 64), many(1, 0), many(0, 1), many(2, 3)} {
		if got, e := genesis.Decode(spelt(g)); e != api.OK || !same(got, g) {
			t.Fatalf("P21.2: %+v, %v, not %+v", got, e, g)
		}
	}
	for i := range 10 {
		for _, x := range numbers() {
			g := first()
			*fieldsOf(&g.Params)[i] = x
			if got, e := genesis.Decode(spelt(g)); e != api.OK || !same(got, g) {
				t.Fatalf("P21.2: %+v, %v, not %+v", got, e, g)
			}
		}
	}
}

// P21.2: that a chain can't begin with it isn't asked here.
func TestDecodeOfWhatIsRefusedLater(t *testing.T) {
	r := rand.New(rand.NewSource(212))
	for range 2000 {
		g := drawn(r, 20, 20)
		if got, e := genesis.Decode(spelt(g)); e != api.OK || !same(got, g) {
			t.Fatalf("P21.2: %+v, %v, not %+v", got, e, g)
		}
	}
}

// P21.2: what ends too early is refused at each place, and what goes on behind it, by any byte, up to MaxGenesis.
func TestOtherLengths(t *testing.T) {
	for _, g := range []api.Genesis{{}, first(), many(3, 2), many(2, 0), many(0, 2), many(256, 64)} {
		b := spelt(g)
		for n := range b {
			if wantDecode(t, b[:n:n]) {
				t.Fatalf("P21.2: %d bytes of %d are a genesis", n, len(b))
			}
		}
		for _, more := range []int{1, 2, 4, 8, 16, 24, 28, 92, api.MaxGenesis - len(b)} {
			for _, x := range []byte{0, 1, 0x47, 0xFF} {
				if wantDecode(t, append(bytes.Clone(b), bytes.Repeat([]byte{x}, more)...)) {
					t.Fatalf("P21.2: %d bytes behind a genesis, and it is one", more)
				}
			}
		}
	}
}

// P21.2: of more than MaxGenesis bytes it is ErrGenLong, whatever they are; of MaxGenesis it isn't.
func TestTooLong(t *testing.T) {
	for _, head := range [][]byte{{}, {0xFF}, spelt(first()), spelt(many(256, 64)), spelt(many(257, 0)), spelt(many(4200, 0)), spelt(many(0, 3000))} {
		for _, n := range []int{1<<16 - 1, 1 << 16, 1<<16 + 1, 1<<16 + 2, 1 << 17, 1 << 22} {
			b := make([]byte, n)
			copy(b, head)
			want := api.ErrGenForm
			if n > 65536 {
				want = api.ErrGenLong
			}
			if got, e := genesis.Decode(b); e != want || !same(got, api.Genesis{}) {
				t.Errorf("P21.2: %d bytes: %v, not %v", n, e, want)
			}
			wantFault(t, "as long", b, want)
		}
	}
	if _, e := genesis.Decode(spelt(many(5000, 5000))); e != api.ErrGenLong {
		t.Errorf("P21.2: a genesis of too many bytes: %v", e)
	}
}

// P21.2: one more than the limits is refused, whichever list it is of, though its bytes are all there.
func TestTooMany(t *testing.T) {
	for _, x := range []struct {
		accounts, vals int
		ok             bool
	}{{256, 64, true}, {257, 64, false}, {256, 65, false}, {257, 0, false}, {0, 65, false}, {257, 65, false}, {65, 64, true}, {1000, 3, false}, {3, 1000, false}} {
		b := spelt(many(x.accounts, x.vals))
		if wantDecode(t, b) != x.ok {
			t.Errorf("P21.2: %d accounts and %d validators", x.accounts, x.vals)
		}
		if !x.ok {
			wantFault(t, "too many", b, api.ErrGenForm)
		}
	}
}

// P21.2: a count that tells of more than there is, as great as may be, is refused without ado.
func TestCounts(t *testing.T) {
	b := spelt(many(2, 2))
	for _, at := range []int{84, 84 + 4 + 32} {
		was := binary.BigEndian.Uint32(b[at:])
		for _, n := range []uint32{0, 1, 2, 3, 4, 63, 64, 65, 255, 256, 257, 258, 1 << 16, 1 << 24, 1<<24 + 2, 1 << 31, 1<<31 + 2, 1<<32 - 1} {
			binary.BigEndian.PutUint32(b[at:], n)
			if wantDecode(t, b) != (n == was) {
				t.Errorf("P21.2: a count of %d", n)
			}
		}
		binary.BigEndian.PutUint32(b[at:], was)
	}
}

// P21.2: the first bytes are the mark, each bit of it.
func TestMark(t *testing.T) {
	for _, g := range []api.Genesis{{}, first()} {
		b := spelt(g)
		for bit := range 32 {
			b[bit/8] ^= 1 << (bit % 8)
			if wantDecode(t, b) {
				t.Errorf("P21.2: % x is a genesis", b)
			}
			b[bit/8] ^= 1 << (bit % 8)
		}
		if !wantDecode(t, b) {
			t.Errorf("P21.2: % x is none", b)
		}
	}
	for _, b := range [][]byte{nil, {}, {0x47}, []byte("GLN"), []byte("GLN1"), make([]byte, 92), []byte("1NLG")} {
		if wantDecode(t, b) {
			t.Errorf("P21.2: % x is a genesis", b)
		}
	}
}

// P21.2: bytes that are near to a genesis', and bytes that are near to nothing.
func TestDecodeOfDrawnBytes(t *testing.T) {
	r := rand.New(rand.NewSource(213))
	taken, refused := 0, 0
	for k := range 8000 {
		b := make([]byte, r.Intn(400))
		r.Read(b)
		if k%2 == 0 {
			b = spelt(drawn(r, 4, 4))
			b[r.Intn(len(b))] = byte(r.Intn(6))
		}
		if k%8 == 0 {
			b = b[:r.Intn(len(b)+1)]
		}
		if wantDecode(t, b) {
			taken++
		} else {
			refused++
		}
	}
	if taken < 100 || refused < 100 {
		t.Errorf("P21.2: %d were taken, %d refused", taken, refused)
	}
}
