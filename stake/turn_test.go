package stake_test

import (
	"slices"
	"testing"

	"glean/api"
	"glean/kv"
	"glean/power"
	"glean/stake"
)

// P15.9, by hand: what is due comes by its time, then by its number; unbondings are paid what is left of them, moves are forgotten.
func TestMature(t *testing.T) {
	s, b := begun()
	b.params[0].Entries = 9
	b.lay(s)
	doCreate(t, s, b, 16, 0, 50)
	doCreate(t, s, b, 18, 0, 10)
	doElect(t, s, b)
	doUndelegate(t, s, b, 16, 16, 7)      // 0, due at 8
	doRedelegate(t, s, b, 16, 18, 16, 11) // 1, due at 8
	doHeight(s, b, 4)
	doUndelegate(t, s, b, 18, 18, 0) // 2, due at 9
	doUndelegate(t, s, b, 18, 16, 2) // 3, due at 9
	b.params[0].Unbond = 4
	b.lay(s)
	doUndelegate(t, s, b, 16, 16, 1) // 4, due at 8
	b.clip(0, 5)
	b.clip(3, 2)
	b.lay(s)
	was := b.copied()
	for _, x := range []struct {
		height uint64
		want   []api.Entry
	}{
		{7, nil},
		{8, []api.Entry{{Id: 0, Kind: api.KeyUnbonding}, {Id: 1, Kind: api.KeyMove}, {Id: 4, Kind: api.KeyUnbonding}}},
		{8, nil},
		{top, []api.Entry{{Id: 2, Kind: api.KeyUnbonding}, {Id: 3, Kind: api.KeyUnbonding}}},
		{top, nil},
	} {
		doHeight(s, b, x.height)
		if got := stake.Mature(s); !slices.Equal(got, x.want) {
			t.Errorf("P15.9: Mature at %d: %v, not %v", x.height, got, x.want)
		}
		b.mature()
		wantBook(t, "P15.9: behind Mature", s, b)
	}
	wantCoins(t, "P15.9: what 16 got", b.purses[16].Coins-was.purses[16].Coins, 2+1)
	wantCoins(t, "P15.9: what 18 got", b.purses[18].Coins-was.purses[18].Coins, 10)
	if len(b.unbondings)+len(b.moves) != 0 {
		t.Errorf("P15.9: there are left %v, %v", b.unbondings, b.moves)
	}
}

// P15.9: what is due at height 0 matures where no chain record lies, too; in an empty store nothing does.
func TestMatureAtNothing(t *testing.T) {
	s := kv.New()
	went, came := stake.Elect(s)
	if l := stake.Mature(s); len(l)+len(went)+len(came) != 0 || len(s.Dump()) != 0 {
		t.Errorf("P15.9: in an empty store: %v, %v, %v, %x", l, went, came, s.Dump())
	}
	b := newBook()
	b.mint(loose, 5)
	b.unbondings[0] = api.Unbonding{Del: 20, Val: 16, Initial: 5, Balance: 5}
	b.unbondings[9] = api.Unbonding{Del: 20, Val: 16, Due: 1, Initial: 5}
	b.lay(s)
	doMature(t, s, b)
	wantCoins(t, "P15.9: at height 0", b.purses[20].Coins, 5)
}

// P15.9: an unbonding isn't paid by a move that has its number, as the chain's Next may be laid anew.
func TestMatureOfANumberTwice(t *testing.T) {
	s, b := begun()
	b.params[0].Unbond = 9
	b.lay(s)
	doCreate(t, s, b, 16, 0, 10)
	doCreate(t, s, b, 18, 0, 10)
	doUndelegate(t, s, b, 16, 16, 5)
	b.params[0].Unbond = 1
	b.chain = []api.Chain{{Height: 3}}
	b.lay(s)
	doRedelegate(t, s, b, 18, 16, 18, 2)
	doHeight(s, b, 4)
	if got := stake.Mature(s); !slices.Equal(got, []api.Entry{{Id: 0, Kind: api.KeyMove}}) {
		t.Errorf("P15.9: Mature: %v", got)
	}
	delete(b.moves, 0)
	wantBook(t, "P15.9: the unbonding stays", s, b)
}

// P15.9, by hand: who is bonded: the most tokens first, of as many the lesser id, not the jailed ones, at most Max.
func TestElect(t *testing.T) {
	s, b := begun()
	for _, x := range []struct{ op, n uint64 }{{16, 10}, {17, 30}, {18, 10}, {19, 10}, {top, 20}} {
		doCreate(t, s, b, x.op, 0, x.n)
	}
	for _, x := range []struct {
		max, jail, out uint64 // who is jailed, or let out again, ahead of it
		went, came     []uint64
		coins          uint64
	}{
		{2, 0, 0, nil, []uint64{17, top}, 50},
		{2, 0, 0, nil, nil, 50},
		{3, 0, 0, nil, []uint64{16}, 60},
		{4, 0, 0, nil, []uint64{18}, 70},
		{4, 17, 0, []uint64{17}, []uint64{19}, 50},
		{3, top, 0, []uint64{top}, nil, 30},
		{3, 16, top, []uint64{16}, []uint64{top}, 40},
		{1, 0, 17, []uint64{18, 19, top}, []uint64{17}, 30},
		{0, 0, 0, []uint64{17}, nil, 0},
		{top, 0, 0, nil, []uint64{17, 18, 19, top}, 70},
		{1 << 63, 0, 16, nil, []uint64{16}, 80},
		{2, 0, 0, []uint64{16, 18, 19}, nil, 50},
	} {
		b.params[0].Max = x.max
		if x.jail > 0 {
			b.fault(x.jail, 0, false)
		}
		if x.out > 0 {
			b.unjail(x.out)
		}
		b.lay(s)
		went, came := stake.Elect(s)
		if !slices.Equal(went, x.went) || !slices.Equal(came, x.came) {
			t.Errorf("P15.9: Elect of %d: %v, %v, not %v, %v", x.max, went, came, x.went, x.came)
		}
		b.elect()
		wantBook(t, "P15.9: behind Elect", s, b)
		wantCoins(t, "P15.9: Bonded's coins", b.purses[bonded].Coins, x.coins)
		wantCoins(t, "P15.9: Loose's coins", b.purses[loose].Coins, 80-x.coins)
	}
}

// P15.9: who has lost all tokens goes, and so do all, if there are no params.
func TestElectWithoutTokens(t *testing.T) {
	s, b := begun()
	doCreate(t, s, b, 16, 0, 10)
	doCreate(t, s, b, 18, 0, 5)
	doElect(t, s, b)
	doFault(s, b, 16, 10000, false)
	b.unjail(16)
	b.lay(s)
	doElect(t, s, b)
	if b.vals[16].Bonded || !b.vals[18].Bonded {
		t.Errorf("P15.9: %v", b.vals)
	}
	b.params = nil
	b.lay(s)
	doElect(t, s, b)
	if b.vals[18].Bonded {
		t.Errorf("P15.9: without params: %v", b.vals)
	}
}

// P15.9: more validators than a page has entries; the index follows what is bound.
func TestElectOfMany(t *testing.T) {
	b := newBook()
	b.params = []api.Params{{Max: 40, Unbond: 1, Entries: 1}}
	for id := uint64(16); id < 116; id++ {
		b.mint(id, 1000)
	}
	s := b.store()
	for id := uint64(16); id < 116; id++ {
		doCreate(t, s, b, id, 0, 1+id*37%100)
	}
	doElect(t, s, b)
	for id := uint64(16); id < 116; id++ {
		doDelegate(t, s, b, id, 116+16-1-id, id*11%70+1)
	}
	doElect(t, s, b)
	if n := len(power.Bonded(s)); n != 40 {
		t.Errorf("P15.9: %d are bonded", n)
	}
	for id := uint64(16); id < 116; id++ {
		doUndelegate(t, s, b, id, id, 0)
	}
	doElect(t, s, b)
}
