package genesis_test

import (
	"bytes"
	"math/rand"
	"testing"

	"glean/api"
	"glean/app"
	"glean/bank"
	"glean/genesis"
	"glean/nat"
	"glean/sound"
)

// wantSound fails unless a store is sound, has the genesis' coins, and an engine goes on over it.
func wantSound(t *testing.T, g api.Genesis) {
	t.Helper()
	s := made(t, g)
	if rule := sound.Check(s); rule != 0 {
		t.Fatalf("P21.4: %+v: rule %d is broken", g, rule)
	}
	all := nat.Of(0)
	for _, p := range g.Accounts {
		all = nat.Add(all, nat.Of(p.Coins))
	}
	if nat.Cmp(bank.Sum(s), all) != 0 {
		t.Fatalf("P21.4: %+v: %s coins, not %s", g, nat.Text(bank.Sum(s)), nat.Text(all))
	}
	e, err := app.New(s)
	if err != api.OK {
		t.Fatalf("P21.4: %+v: no engine: %v", g, err)
	}
	report, err := e.Block(nil)
	if err != api.OK || report.Height != 1 || len(report.Went)+len(report.Came) > 0 || sound.Check(e.Store()) != 0 {
		t.Fatalf("P21.4: %+v: the first block: %+v, %v", g, report, err)
	}
}

// P21.4: what Make tells is sound, at the edges too.
func TestSound(t *testing.T) {
	for _, most := range []uint64{1, 2, 63, 64} {
		for _, g := range []api.Genesis{many(0, 0), many(1, 1), many(64, 64), many(256, 0), many(256, 64)} {
			g.Params.Max = most
			wantSound(t, g)
		}
	}
	g := first()
	g.Accounts[0].Coins, g.Vals[0].Tokens = supply, supply
	wantSound(t, g)
	g.Accounts = []api.Purse{{Id: 16, Coins: 1}, {Id: top, Coins: supply - 1}}
	g.Vals = []api.Founder{{Op: 16, Rate: 10000, Tokens: 1}, {Op: top, Tokens: supply - 1}}
	wantSound(t, g)
}

// P21.4: what Make tells of drawn beginnings is sound.
func TestDrawnSound(t *testing.T) {
	r := rand.New(rand.NewSource(216))
	for range 800 {
		wantSound(t, drawnChain(r))
	}
}

// P21.4: whatever bytes Make takes, what it tells is sound, and holds what their genesis says.
func TestSoundOfAnyBytes(t *testing.T) {
	r := rand.New(rand.NewSource(217))
	taken, refused := 0, 0
	for range 4000 {
		b := spelt(drawnChain(r))
		for range r.Intn(3) {
			b[r.Intn(len(b))] ^= 1 << r.Intn(8)
		}
		s, e := genesis.Make(b)
		if e != api.OK {
			refused++
			continue
		}
		taken++
		g, ok := meant(b)
		if !ok || sound.Check(s) != 0 {
			t.Fatalf("P21.4: % x: rule %d is broken", b, sound.Check(s))
		}
		wantMade(t, g)
	}
	if taken < 500 || refused < 500 {
		t.Errorf("P21.4: %d were taken, %d refused", taken, refused)
	}
}

// P21.4: a genesis comes back as it went.
func TestThereAndBack(t *testing.T) {
	r := rand.New(rand.NewSource(218))
	for range 2000 {
		g := drawn(r, 1<<r.Intn(9), 1<<r.Intn(7))
		if got, e := genesis.Decode(genesis.Encode(g)); e != api.OK || !same(got, g) {
			t.Fatalf("P21.4: Decode(Encode(%+v)): %+v, %v", g, got, e)
		}
	}
}

// P21.4: bytes that are taken are told again as they were.
func TestBackAndThere(t *testing.T) {
	r := rand.New(rand.NewSource(219))
	taken := 0
	for range 20000 {
		b := genesis.Encode(drawn(r, 5, 5))
		b[r.Intn(len(b))] = byte(r.Intn(256))
		g, e := genesis.Decode(b)
		if e != api.OK {
			continue
		}
		taken++
		if got := genesis.Encode(g); !bytes.Equal(got, b) {
			t.Fatalf("P21.4: Encode(Decode(% x)): % x", b, got)
		}
	}
	if taken < 1000 {
		t.Errorf("P21.4: only %d were taken", taken)
	}
}
