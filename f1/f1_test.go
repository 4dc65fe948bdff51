package f1_test

import (
	"math/big"
	"strings"
	"testing"

	"glean/api"
	"glean/dec"
	"glean/f1"
	"glean/kv"
)

const hair = "0.000000000000000000000000000000000001"

// full tells a validator each of whose fields is another one than 0.
func full(tokens, period uint64, current, outstanding api.Dec) api.Validator {
	return api.Validator{
		Rate: 5, Tokens: tokens, Shares: dec.Of(4), Jailed: true, Until: 6, Bonded: true, Period: period,
		Current: current, Outstanding: outstanding, Commission: dec.Of(7),
	}
}

// P13.1 to P13.5: the chapter's examples.
func TestExamples(t *testing.T) {
	s, b := kv.New(), newBook()
	v := doStart(t, s, b, 16, api.Validator{Tokens: 4, Shares: dec.Of(4)})
	d := doHold(t, s, b, 16, v, api.Delegation{Shares: dec.Of(1)})
	wantDelegation(t, "P13.3: Hold of 1 share", d, api.Delegation{Shares: dec.Of(1), Period: 0, Stake: dec.Of(1)})
	v.Current = dec.Of(10)
	v, _ = doClose(t, s, b, 16, v)
	if got, n := f1.Claim(s, 16, v, d); dec.Text(got) != "2.5" || n != 0 {
		t.Errorf("P13.4: Claim: %s, %d", dec.Text(got), n)
	}
	v, _ = doClose(t, s, b, 16, v)
	v = doCut(t, s, b, 16, v, 2)
	v.Current = dec.Of(10)
	v, _ = doClose(t, s, b, 16, v)
	if got, n := f1.Claim(s, 16, v, d); dec.Text(got) != "5" || n != 1 {
		t.Errorf("P13.4: Claim behind a cut: %s, %d", dec.Text(got), n)
	}
	wantBook(t, "P13.5: the examples", s, b)
	doFree(s, b, 16, d)
	if s.Has(keyOf(place{16, 0}, 0x68)) || !s.Has(keyOf(place{16, 3}, 0x68)) {
		t.Error("P13.3: Free: history 0 goes, and no other one")
	}
	wantBook(t, "P13.3: behind Free", s, b)
}

// P13.1: Period is 1 and Current 0, whatever they were; all else stays; period 0 is referred to, once more each time.
func TestStart(t *testing.T) {
	for _, id := range numbers() {
		s, b := kv.New(), newBook()
		for _, period := range numbers() {
			v := full(period, period, dec.Of(9), dec.Of(8))
			got := doStart(t, s, b, id, v)
			v.Period, v.Current = 1, api.Dec{}
			wantVal(t, "P13.1: Start", got, v)
			wantBook(t, "P13.1: behind Start", s, b)
		}
		if refs := b.pasts[place{id, 0}].refs; refs != uint64(len(numbers())) {
			t.Errorf("P13.1: %d refer to period 0", refs)
		}
	}
}

// P13.2, by hand: what the ratio grows by, what is outstanding behind it, what goes to the pool.
func TestClose(t *testing.T) {
	for _, x := range []struct {
		tokens                                uint64
		current, outstanding, each, left, out string
	}{
		{4, "10", "50", "2.5", "50", "0"},
		{3, "1", "1", "0.333333333333333333333333333333333333", "1", "0"},
		{3, "2", "0", "0.666666666666666666666666666666666666", "0", "0"},
		{2, hair, "1", "0", "1", "0"},
		{1, hair, "1", hair, "1", "0"},
		{1, "0", "3", "0", "3", "0"},
		{top, "18446744073709551615", "5", "1", "5", "0"},
		{top, "18446744073709551614", "5", "0.999999999999999999945789891375724778", "5", "0"},
		{0, "0", "5", "0", "5", "0"},
		{0, "3", "5", "0", "2", "3"},
		{0, "5", "5", "0", "0", "5"},
		{0, "5." + hair[2:], "5", "0", "0", "5." + hair[2:]},
		{0, "9", "0", "0", "0", "9"},
		{0, hair, "1", "0", "0." + strings.Repeat("9", 36), hair},
	} {
		s, b := kv.New(), newBook()
		doStart(t, s, b, 16, api.Validator{})
		v := full(x.tokens, 1, parsed(t, x.current), parsed(t, x.outstanding))
		got, pool := doClose(t, s, b, 16, v)
		v.Period, v.Current, v.Outstanding = 2, api.Dec{}, parsed(t, x.left)
		wantVal(t, "P13.2: Close", got, v)
		wantDec(t, "P13.2: what goes to the pool", pool, parsed(t, x.out))
		wantDec(t, "P13.2: the ratio", decOf(b.ratio(16, 1)), parsed(t, x.each))
		wantBook(t, "P13.2: behind Close", s, b)
	}
}

// P13.2: ratios sum; a period that others refer to stays, with one reference less; one that isn't there has the ratio 0, and nothing is laid for it.
func TestCloseAgain(t *testing.T) {
	s, b := kv.New(), newBook()
	v := doStart(t, s, b, 16, api.Validator{Tokens: 4, Shares: dec.Of(4)})
	for i := range uint64(20) {
		if i%3 == 0 {
			doHold(t, s, b, 16, v, api.Delegation{Shares: dec.Of(1)})
		}
		v.Current = dec.Of(i)
		v, _ = doClose(t, s, b, 16, v)
		wantBook(t, "P13.2: one more period", s, b)
	}
	if histories, _ := f1.Count(s, 16); histories != 8 {
		t.Errorf("P13.2: %d histories lie there", histories)
	}
	wantDec(t, "P13.2: the ratio", decOf(b.ratio(16, 20)), parsed(t, "47.5"))
	doClose(t, s, b, 16, full(2, 7, dec.Of(3), dec.Of(3)))
	doClose(t, s, b, 17, full(2, 7, dec.Of(3), dec.Of(3)))
	wantBook(t, "P13.2: periods that follow none", s, b)
	doClose(t, s, b, 16, full(2, 1, dec.Of(3), dec.Of(3)))
	doClose(t, s, b, 16, full(2, 20, dec.Of(3), dec.Of(3)))
	wantBook(t, "P13.2: a history that is there is laid anew", s, b)
}

// P13.2, P13.3, P13.5: periods go modulo 2^64.
func TestPeriodsGoRound(t *testing.T) {
	for _, id := range numbers() {
		s, b := kv.New(), newBook()
		v := full(2, top-2, dec.Of(3), dec.Of(9))
		for range 6 {
			v.Current = dec.Of(3)
			v, _ = doClose(t, s, b, id, v)
			d := doHold(t, s, b, id, v, api.Delegation{Shares: dec.Of(1)})
			v = doCut(t, s, b, id, v, v.Tokens+1)
			wantBook(t, "P13.2: about the end of the numbers", s, b)
			wantClaim(t, "about the end of the numbers", s, b, id, v, d)
		}
		if v.Period != 3 {
			t.Errorf("P13.2: the period is %d", v.Period)
		}
	}
	s, b := kv.New(), newBook()
	got := doHold(t, s, b, 16, full(8, 0, api.Dec{}, api.Dec{}), api.Delegation{Shares: dec.Of(1), Period: 5, Stake: dec.Of(77)})
	wantDelegation(t, "P13.3: Hold at period 0", got, api.Delegation{Shares: dec.Of(1), Period: top, Stake: dec.Of(2)})
	wantBook(t, "P13.3: Hold at period 0", s, b)
}

// P13.2: the greatest ratio that a record has room for.
func TestGreatestRatio(t *testing.T) {
	s, b := kv.New(), newBook()
	most := new(big.Int).Sub(new(big.Int).Lsh(big.NewInt(1), 255*8), big.NewInt(1))
	v := doStart(t, s, b, 16, api.Validator{Tokens: 1, Shares: dec.Of(1)})
	d := doHold(t, s, b, 16, v, api.Delegation{Shares: dec.Of(1)})
	v.Current = decOf(most)
	v, _ = doClose(t, s, b, 16, v)
	wantBook(t, "P13.2: a ratio of 255 bytes", s, b)
	wantClaim(t, "a ratio of 255 bytes", s, b, 16, v, d)
}

// P13.3, by hand: the stake is what the shares are worth, rounded down; the period is the one that was closed last.
func TestHold(t *testing.T) {
	for _, x := range []struct {
		tokens                   uint64
		shares, delegated, stake string
	}{
		{4, "4", "1", "1"},
		{1, "3", "1", "0.333333333333333333333333333333333333"},
		{2, "3", "1", "0.666666666666666666666666666666666666"},
		{0, "3", "1", "0"},
		{4, "0", "1", "0"},
		{0, "0", "0", "0"},
		{10, "4", "0", "0"},
		{10, "4", "8", "20"},
		{top, "1", hair, "0.000000000000000018446744073709551615"},
		{1, hair, "1", "1" + strings.Repeat("0", 36)},
	} {
		s, b := kv.New(), newBook()
		v := api.Validator{Tokens: x.tokens, Shares: parsed(t, x.shares), Period: 9}
		d := api.Delegation{Shares: parsed(t, x.delegated), Period: 3, Stake: dec.Of(77)}
		got := doHold(t, s, b, 16, v, d)
		wantDelegation(t, "P13.3: Hold", got, api.Delegation{Shares: d.Shares, Period: 8, Stake: parsed(t, x.stake)})
		wantBook(t, "P13.3: behind Hold", s, b)
	}
}

// P13.3: each Hold refers once more, each Free lets go once; the last one takes the history away, and one more does nothing.
func TestHoldAndFree(t *testing.T) {
	for _, period := range numbers() {
		s, b := kv.New(), newBook()
		v := api.Validator{Tokens: 1, Shares: dec.Of(1), Period: period}
		for range 5 {
			doHold(t, s, b, 16, v, api.Delegation{Shares: dec.Of(1)})
			wantBook(t, "P13.3: behind Hold", s, b)
		}
		for range 6 {
			for _, other := range []place{{16, period}, {16, period - 2}, {17, period - 1}, {15, period - 1}} {
				f1.Free(s, other.id, api.Delegation{Period: other.period})
			}
			wantBook(t, "P13.3: Free of what isn't there", s, b)
			doFree(s, b, 16, api.Delegation{Period: period - 1, Shares: dec.Of(9), Stake: dec.Of(9)})
			wantBook(t, "P13.3: behind Free", s, b)
		}
		if len(s.Dump()) != 0 {
			t.Errorf("P13.3: %v is left", s.Dump())
		}
	}
}

// P13.3: Free keeps the ratio of a history that others refer to.
func TestFreeKeepsTheRatio(t *testing.T) {
	s, b := kv.New(), newBook()
	v, _ := doClose(t, s, b, 16, full(3, 1, dec.Of(10), dec.Of(10)))
	d := doHold(t, s, b, 16, v, api.Delegation{Shares: dec.Of(1)})
	doFree(s, b, 16, d)
	wantBook(t, "P13.3: behind Free", s, b)
	wantDec(t, "P13.3: the ratio", decOf(b.ratio(16, 1)), parsed(t, "3.333333333333333333333333333333333333"))
}

// P13.5: the cut lies under the period that was closed last, which is referred to; all else of the validator stays.
func TestCut(t *testing.T) {
	for _, id := range numbers() {
		for _, before := range numbers() {
			for _, after := range numbers() {
				s, b := kv.New(), newBook()
				v := full(before, before+2, dec.Of(9), dec.Of(8))
				got := doCut(t, s, b, id, v, after)
				v.Tokens = after
				wantVal(t, "P13.5: Cut", got, v)
				wantBook(t, "P13.5: behind Cut", s, b)
			}
		}
	}
}

// P13.5: Cut keeps the ratio of the history, and lays a cut that is there anew.
func TestCutAgain(t *testing.T) {
	s, b := kv.New(), newBook()
	v, _ := doClose(t, s, b, 16, full(3, 1, dec.Of(10), dec.Of(10)))
	for _, after := range []uint64{2, 1, 0, 0} {
		v = doCut(t, s, b, 16, v, after)
		wantBook(t, "P13.5: behind Cut", s, b)
	}
	if histories, cuts := f1.Count(s, 16); histories != 1 || cuts != 1 {
		t.Errorf("P13.5: Count: %d, %d", histories, cuts)
	}
}

// P13.5: Gone takes away the histories and cuts of one validator, all of them, and nothing else.
func TestGone(t *testing.T) {
	ids := append(numbers(), 15, 18, 257)
	for _, id := range ids {
		s, b := kv.New(), newBook()
		for _, other := range ids {
			for i := range uint64(70) {
				v, _ := doClose(t, s, b, other, full(3, i*0x0101010101010101, dec.Of(i), dec.Of(i)))
				doHold(t, s, b, other, v, api.Delegation{})
				if i%2 == 0 {
					doCut(t, s, b, other, v, i)
				}
			}
		}
		f1.Gone(s, id)
		b.gone(id)
		wantBook(t, "P13.5: behind Gone", s, b)
		f1.Gone(s, id)
		wantBook(t, "P13.5: behind Gone of nothing", s, b)
	}
}

// P13.5: records of other kinds, those of the validator too, are neither counted nor taken away.
func TestOtherRecordsBeside(t *testing.T) {
	s, b := started(t)
	for id := range b.copied().pasts {
		s.Set(spelt([]byte{0x76}, id.id), nil)
		for mark := range 256 {
			if mark != 0x68 && mark != 0x73 {
				s.Set(keyOf(id, byte(mark)), []byte{1})
			}
		}
	}
	others := len(s.Dump()) - len(b.laid())
	for _, id := range numbers() {
		histories, cuts := f1.Count(s, id)
		if h, c := b.count(id); h != histories || c != cuts {
			t.Errorf("P13.5: Count(%d): %d, %d, not %d, %d", id, histories, cuts, h, c)
		}
	}
	for p := range b.pasts {
		wantClaim(t, "beside other records", s, b, p.id, api.Validator{Period: top}, api.Delegation{Stake: dec.Of(3)})
	}
	for _, id := range numbers() {
		f1.Gone(s, id)
	}
	if left := len(s.Dump()); left != others {
		t.Errorf("P13.5: behind Gone %d are left, not %d", left, others)
	}
}
