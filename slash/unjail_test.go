package slash_test

import (
	"testing"

	"glean/api"
	"glean/power"
	"glean/slash"
)

// P16.2: what is refused, and by which of the errors that apply; then nothing changes.
func TestRefusedUnjail(t *testing.T) {
	s, b := begun()
	for _, id := range []uint64{16, 17, 18} {
		doCreate(t, s, b, id, 0, 100)
	}
	doFault(t, s, b, double, 17, 3)
	doFault(t, s, b, down, 18, 3)
	b.tombs[19] = 1
	b.lay(s)
	for now, last := uint64(3), uint64(10); now < last; now++ {
		doHeight(s, b, now)
		for id, want := range map[uint64]api.Errno{
			0: api.ErrSlashNone, 15: api.ErrSlashNone, 19: api.ErrSlashNone, top: api.ErrSlashNone,
			16: api.ErrSlashFree, 17: api.ErrSlashTomb, 18: api.ErrSlashWait,
		} {
			wantErr(t, "P16.2: a refused Unjail", slash.Unjail(s, id), want)
			wantBook(t, "P16.2: a refused Unjail", s, b)
		}
	}
	doHeight(s, b, 10)
	wantErr(t, "P16.2: its time has come", doUnjail(t, s, b, 18), api.OK)
	wantErr(t, "P16.2: once is enough", doUnjail(t, s, b, 18), api.ErrSlashFree)
	doHeight(s, b, top)
	wantErr(t, "P16.2: behind FaultDouble, at the end of time", doUnjail(t, s, b, 17), api.ErrSlashTomb)
}

// P16.2: where the document's order is to be seen of laid records alone: a tomb of one that isn't jailed.
func TestFreeAheadOfTomb(t *testing.T) {
	s, b := begun()
	doCreate(t, s, b, 16, 0, 100)
	b.tombs[16] = 2
	b.lay(s)
	wantErr(t, "P16.2: it isn't jailed", doUnjail(t, s, b, 16), api.ErrSlashFree)
}

// P16.2: one that is let out stands in the index by the tokens that it has then, and is bonded by Elect alone.
func TestUnjail(t *testing.T) {
	for _, elected := range []bool{false, true} {
		s, b := begun()
		doCreate(t, s, b, 16, 0, 100)
		doCreate(t, s, b, 17, 0, 97)
		doElect(t, s, b)
		doFault(t, s, b, down, 16, 3)
		if elected {
			doElect(t, s, b)
		}
		doDelegate(t, s, b, 16, 18, 1)
		doUndelegate(t, s, b, 16, 16, 3)
		doHeight(s, b, 10)
		was := b.vals[16]
		wantErr(t, "P16.2: Unjail", slash.Unjail(s, 16), api.OK)
		v := was
		v.Jailed, v.Until = false, 0
		b.vals[16] = v
		wantBook(t, "P16.2: nothing else has changed", s, b)
		if got := power.Top(s, 9); len(got) != 2 || got[0] != 17 || got[1] != 16 || v.Tokens != 93 {
			t.Errorf("P16.2: the index: %v, %v", got, v)
		}
		if b.vals[16].Bonded == elected {
			t.Errorf("P16.2: %v", b.vals[16])
		}
		doElect(t, s, b)
		if !b.vals[16].Bonded || b.purses[bonded].Coins != 93+97 {
			t.Errorf("P16.2: behind Elect: %v, %v", b.vals[16], b.purses[bonded])
		}
	}
}

// P16.2: just at Until, modulo 2^64 as it was laid.
func TestUnjailAtTheEdge(t *testing.T) {
	for _, x := range []struct {
		now, jail, then uint64
		want            api.Errno
	}{
		{3, 7, 9, api.ErrSlashWait}, {3, 7, 10, api.OK}, {3, 7, 11, api.OK}, {3, 0, 3, api.OK}, {3, 1, 3, api.ErrSlashWait}, {3, 7, 2, api.ErrSlashWait},
		{3, top, 3, api.OK}, {3, top, 1, api.ErrSlashWait}, {0, top, top - 1, api.ErrSlashWait}, {0, top, top, api.OK},
	} {
		s, b := begun()
		doCreate(t, s, b, 16, 0, 100)
		doHeight(s, b, x.now)
		doParams(s, b, func(p *api.Params) { p.Jail = x.jail })
		doFault(t, s, b, down, 16, x.now)
		doHeight(s, b, x.then)
		wantErr(t, "P16.2: at the edge", doUnjail(t, s, b, 16), x.want)
	}
}

// P16.2: a validator that was let out can be at fault again, as the first time.
func TestDownAgain(t *testing.T) {
	s, b := begun()
	doCreate(t, s, b, 16, 0, 1000)
	for i, want := range []uint64{950, 903, 858} {
		doFault(t, s, b, down, 16, b.stand().Height)
		wantCoins(t, "P16.1: down again", b.vals[16].Tokens, want)
		_, _, e := doFault(t, s, b, down, 16, b.stand().Height)
		wantErr(t, "P16.1: while it is jailed", e, api.ErrSlashJail)
		doHeight(s, b, uint64(10+7*i))
		wantErr(t, "P16.2: let out", doUnjail(t, s, b, 16), api.OK)
	}
}

// P16.2: one without a token is let out, and stands in the index when it has one.
func TestUnjailWithoutTokens(t *testing.T) {
	s, b := begun()
	doParams(s, b, func(p *api.Params) { p.Down = 10000 })
	doCreate(t, s, b, 16, 0, 100)
	doFault(t, s, b, down, 16, 3)
	doHeight(s, b, 10)
	wantErr(t, "P16.2: without a token", doUnjail(t, s, b, 16), api.OK)
	if got := power.Top(s, 9); len(got) != 0 {
		t.Errorf("P16.2: the index: %v", got)
	}
}
