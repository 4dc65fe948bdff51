package f1_test

import (
	"testing"

	"glean/api"
	"glean/dec"
	"glean/f1"
	"glean/keys"
	"glean/kv"
	"glean/rec"
)

// lay lays a history of validator 16, and a cut, if one is handed in, in the store and the book.
func lay(t *testing.T, s *kv.Store, b *book, period uint64, ratio string, c *api.Cut) {
	t.Helper()
	h := api.History{Ratio: parsed(t, ratio), Refs: 1}
	k, _ := keys.Make(api.Key{Kind: api.KeyHistory, A: 16, B: period})
	s.Set(k, rec.PutHistory(h))
	b.pasts[place{16, period}] = past{value(h.Ratio), 1}
	if c != nil {
		k, _ = keys.Make(api.Key{Kind: api.KeyCut, A: 16, B: period})
		s.Set(k, rec.PutCut(*c))
		b.cuts[place{16, period}] = *c
	}
}

// told fails unless Claim tells that reward and so many cuts.
func told(t *testing.T, what string, s *kv.Store, period uint64, d api.Delegation, want string, along int) {
	t.Helper()
	got, n := f1.Claim(s, 16, api.Validator{Period: period}, d)
	if dec.Text(got) != want || n != along {
		t.Errorf("P13.4: %s: Claim: %s, %d, not %s, %d", what, dec.Text(got), n, want, along)
	}
}

// P13.4: nothing lies there: nothing is earned.
func TestClaimOfNothing(t *testing.T) {
	s := kv.New()
	for _, last := range numbers() {
		for _, from := range numbers() {
			told(t, "nothing lies there", s, last, api.Delegation{Period: from, Stake: dec.Of(5)}, "0", 0)
		}
	}
	if len(s.Dump()) != 0 {
		t.Error("P13.4: Claim has laid something")
	}
}

// P13.4: cuts count from the period behind the delegation's up to the last one that was closed, these two ends told apart.
func TestWhichCuts(t *testing.T) {
	s, b := kv.New(), newBook()
	for period, ratio := range []string{"0", "1", "3", "6", "10", "15"} {
		lay(t, s, b, uint64(period), ratio, &api.Cut{Before: 2, After: 1})
	}
	told(t, "from 0 to 5", s, 6, api.Delegation{Period: 0, Stake: dec.Of(16)}, "57", 5)
	told(t, "from 1 to 4", s, 5, api.Delegation{Period: 1, Stake: dec.Of(16)}, "72", 3)
	told(t, "from 4 to 5", s, 6, api.Delegation{Period: 4, Stake: dec.Of(16)}, "80", 1)
	told(t, "from 4 to 4", s, 5, api.Delegation{Period: 4, Stake: dec.Of(16)}, "0", 0)
	told(t, "from 5 to 4", s, 5, api.Delegation{Period: 5, Stake: dec.Of(16)}, "0", 0)
	told(t, "from 5 to 0", s, 1, api.Delegation{Period: 5, Stake: dec.Of(16)}, "0", 0)
	told(t, "from the greatest period to 5", s, 6, api.Delegation{Period: top, Stake: dec.Of(16)}, "240", 0)
	told(t, "from 0 to the greatest period", s, 0, api.Delegation{Period: 0, Stake: dec.Of(16)}, "57", 5)
	told(t, "no stake", s, 6, api.Delegation{Period: 0}, "0", 5)
	wantBook(t, "P13.4: behind Claim", s, b)
}

// P13.4: a cut of the greatest period counts, and one of period 0 never does.
func TestCutsAtTheEnds(t *testing.T) {
	s, b := kv.New(), newBook()
	lay(t, s, b, 0, "1", &api.Cut{Before: 4, After: 1})
	lay(t, s, b, top-1, "3", &api.Cut{Before: 4, After: 2})
	lay(t, s, b, top, "7", &api.Cut{Before: 4, After: 3})
	told(t, "all", s, 0, api.Delegation{Period: 0, Stake: dec.Of(4)}, "16", 2)
	told(t, "all but the last one", s, top, api.Delegation{Period: 0, Stake: dec.Of(4)}, "8", 1)
	told(t, "the last one", s, 0, api.Delegation{Period: top - 1, Stake: dec.Of(4)}, "16", 1)
	told(t, "from the last one", s, 0, api.Delegation{Period: top, Stake: dec.Of(4)}, "0", 0)
	told(t, "from the last one to 0", s, 1, api.Delegation{Period: top, Stake: dec.Of(4)}, "0", 0)
	told(t, "from 0 to 0", s, 1, api.Delegation{Period: 0, Stake: dec.Of(4)}, "0", 0)
}

// P13.4: each stretch is rounded down by itself, and so is the stake behind each cut.
func TestEachStretchIsRounded(t *testing.T) {
	s, b := kv.New(), newBook()
	half := parsed(t, "0.5")
	lay(t, s, b, 1, hair, &api.Cut{Before: 1, After: 1})
	lay(t, s, b, 2, "0.000000000000000000000000000000000002", nil)
	told(t, "a hair, halved twice", s, 3, api.Delegation{Stake: half}, "0", 1)
	told(t, "two hairs, halved once", s, 3, api.Delegation{Stake: half, Period: top}, hair, 0)
	told(t, "one and a half hairs", s, 2, api.Delegation{Stake: parsed(t, "1.5"), Period: top}, hair, 0)
	s, b = kv.New(), newBook()
	lay(t, s, b, 1, "0", &api.Cut{Before: 3, After: 1})
	lay(t, s, b, 2, "3", &api.Cut{Before: 1, After: 3})
	lay(t, s, b, 3, "4", nil)
	told(t, "a third of 1, 3 times", s, 3, api.Delegation{Stake: dec.Of(1)}, "0.999999999999999999999999999999999999", 2)
	told(t, "a third of 1, times 3", s, 4, api.Delegation{Stake: dec.Of(1)}, "1.999999999999999999999999999999999998", 2)
	s, b = kv.New(), newBook()
	lay(t, s, b, 1, "0", &api.Cut{Before: 7, After: 3})
	lay(t, s, b, 2, "1", nil)
	told(t, "10 times 3 by 7, rounded once", s, 3, api.Delegation{Stake: dec.Of(10)}, "4.285714285714285714285714285714285714", 1)
}

// P13.4: a stretch over which the ratio falls earns nothing, and the next one begins there; a cut of no tokens leaves no stake.
func TestFallingAndDead(t *testing.T) {
	s, b := kv.New(), newBook()
	lay(t, s, b, 0, "5", nil)
	lay(t, s, b, 1, "2", &api.Cut{Before: 1, After: 1})
	lay(t, s, b, 2, "3", nil)
	told(t, "down and up", s, 3, api.Delegation{Stake: dec.Of(4)}, "4", 1)
	told(t, "down", s, 2, api.Delegation{Stake: dec.Of(4)}, "0", 1)
	told(t, "from a history that isn't there", s, 3, api.Delegation{Stake: dec.Of(4), Period: 9}, "12", 0)
	told(t, "to a history that isn't there", s, 9, api.Delegation{Stake: dec.Of(4)}, "0", 1)
	lay(t, s, b, 3, "4", &api.Cut{Before: 0, After: 6})
	lay(t, s, b, 4, "100", &api.Cut{Before: 1, After: 9})
	lay(t, s, b, 5, "200", nil)
	told(t, "a cut of no tokens", s, 6, api.Delegation{Stake: dec.Of(4)}, "8", 3)
	lay(t, s, b, 3, "4", &api.Cut{Before: 5, After: 0})
	told(t, "a cut to no tokens", s, 6, api.Delegation{Stake: dec.Of(4)}, "8", 3)
}

// P13.4: the stake and the period count, and no other field of the delegation, nor of the validator but its Period.
func TestWhatCounts(t *testing.T) {
	s, b := kv.New(), newBook()
	lay(t, s, b, 1, "2", &api.Cut{Before: 2, After: 1})
	lay(t, s, b, 2, "4", nil)
	d := api.Delegation{Shares: dec.Of(99), Stake: dec.Of(4)}
	for _, tokens := range numbers() {
		got, n := f1.Claim(s, 16, full(tokens, 3, dec.Of(tokens), dec.Of(1)), d)
		if dec.Text(got) != "12" || n != 1 {
			t.Errorf("P13.4: with %d tokens: %s, %d", tokens, dec.Text(got), n)
		}
	}
	for _, id := range []uint64{0, 15, 17, 16 << 8, top} {
		if got, n := f1.Claim(s, id, full(4, 3, dec.Of(4), dec.Of(1)), d); !dec.Zero(got) || n != 0 {
			t.Errorf("P13.4: of %d: %s, %d", id, dec.Text(got), n)
		}
	}
}

// P13.4: more cuts than a page has entries.
func TestManyCuts(t *testing.T) {
	s, b := kv.New(), newBook()
	v := doStart(t, s, b, 16, api.Validator{Tokens: 1_000_000, Shares: dec.Of(3)})
	d := doHold(t, s, b, 16, v, api.Delegation{Shares: dec.Of(1)})
	for i := range uint64(200) {
		v.Current = dec.Of(i)
		v, _ = doClose(t, s, b, 16, v)
		v = doCut(t, s, b, 16, v, v.Tokens-7*i)
		wantClaim(t, "one more cut", s, b, 16, v, d)
	}
	wantBook(t, "P13.5: many cuts", s, b)
	if _, n := f1.Claim(s, 16, v, d); n != 200 {
		t.Errorf("P13.4: %d cuts", n)
	}
}
