package genesis_test

import (
	"bytes"
	"math/rand"
	"slices"
	"sync"
	"testing"

	"glean/api"
	"glean/bank"
	"glean/genesis"
)

// DOC.md, what holds everywhere, 3: Encode neither changes nor keeps what it is handed, the room behind it included; its answers are new memory.
func TestWhatEncodeIsHanded(t *testing.T) {
	r := rand.New(rand.NewSource(220))
	for range 200 {
		g := drawn(r, 9, 9)
		g.Accounts, g.Vals = roomy(g.Accounts, api.Purse{Id: 7, Coins: 7}), roomy(g.Vals, api.Founder{Op: 7, Rate: 7, Tokens: 7})
		accounts, vals := slices.Clone(g.Accounts[:cap(g.Accounts)]), slices.Clone(g.Vals[:cap(g.Vals)])
		want := spelt(g)
		one, two := genesis.Encode(g), genesis.Encode(g)
		if !slices.Equal(g.Accounts[:cap(g.Accounts)], accounts) || !slices.Equal(g.Vals[:cap(g.Vals)], vals) {
			t.Fatal("P21.1: Encode changed what it was handed")
		}
		spoil(g.Accounts, api.Purse{})
		spoil(g.Vals, api.Founder{})
		spoil(one, 0xA5)
		if !bytes.Equal(two, want) {
			t.Fatal("P21.1: what was told shares memory")
		}
	}
}

// DOC.md, what holds everywhere, 3: Decode neither changes nor keeps what it is handed, and doesn't read the room behind it; its answers are new memory.
func TestWhatDecodeIsHanded(t *testing.T) {
	r := rand.New(rand.NewSource(221))
	for k := range 200 {
		g := drawn(r, 9, 9)
		b := spelt(g)
		b = roomy(b, 0xA5)[:len(b)-k%2]
		before := bytes.Clone(b[:cap(b)])
		one, e := genesis.Decode(b)
		two, _ := genesis.Decode(b)
		if !bytes.Equal(b[:cap(b)], before) || (e == api.OK) != (k%2 == 0) {
			t.Fatalf("P21.2: Decode changed what it was handed, or read behind it: %v", e)
		}
		spoil(b, 0)
		spoil(one.Accounts, api.Purse{})
		spoil(one.Vals, api.Founder{})
		if k%2 == 0 && !same(two, g) {
			t.Fatal("P21.2: what was told shares memory")
		}
	}
}

// DOC.md, what holds everywhere, 3 and 9: Make neither changes nor keeps what it is handed; two stores don't touch one another, and no journal is under way in them.
func TestWhatMakeIsHanded(t *testing.T) {
	r := rand.New(rand.NewSource(222))
	for range 200 {
		g := drawnChain(r)
		b := roomy(spelt(g), 0xA5)
		before := bytes.Clone(b[:cap(b)])
		one, _ := genesis.Make(b)
		two, _ := genesis.Make(b)
		if !bytes.Equal(b[:cap(b)], before) {
			t.Fatal("P21.3: Make changed what it was handed")
		}
		spoil(b, 0)
		if one.Depth() != 0 || one.Ops() != two.Ops() {
			t.Fatalf("P21.3: %d journals are under way, %d operations, not %d", one.Depth(), one.Ops(), two.Ops())
		}
		bank.Mint(one, 5000, 1)
		for _, p := range one.Dump() {
			one.Delete(p.Key)
		}
		if !slices.EqualFunc(two.Dump(), laid(g), samePair) {
			t.Fatal("P21.3: two stores touch one another")
		}
	}
}

// DOC.md, what holds everywhere, 9: calls at the same time answer as they do alone.
func TestAtTheSameTime(t *testing.T) {
	var all sync.WaitGroup
	for k := range 8 {
		all.Go(func() {
			r := rand.New(rand.NewSource(int64(230 + k)))
			for range 50 {
				g := drawnChain(r)
				b := genesis.Encode(g)
				got, e := genesis.Decode(b)
				s, f := genesis.Make(b)
				if e != api.OK || f != api.OK || !same(got, g) || !slices.EqualFunc(s.Dump(), laid(g), samePair) {
					t.Errorf("P21.4: beside others: %+v, %v, %v", got, e, f)
					return
				}
			}
		})
	}
	all.Wait()
}
