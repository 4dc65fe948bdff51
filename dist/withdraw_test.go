package dist_test

import (
	"math/rand"
	"testing"

	"glean/api"
	"glean/dec"
	"glean/dist"
	"glean/kv"
)

// P14.5, by hand: it is paid, held anew, and both records are laid.
func TestWithdraw(t *testing.T) {
	b := owed(t, "10", "1", 100)
	s, v := b.store(), b.vals[16]
	paid, e := dist.Withdraw(s, 16, 20)
	wantErr(t, "P14.5: Withdraw", e, api.OK)
	wantPaid(t, "P14.5: Withdraw", paid, api.Paid{Val: 16, Del: 20, W: 2, Q: parsed(t, "0.5"), Left: dec.Of(2), Tokens: 4, Shares: dec.Of(4)})
	v.Period, v.Current, v.Outstanding = 2, api.Dec{}, parsed(t, "7.5")
	b.vals[16] = v
	b.dels[pair{16, 20}] = api.Delegation{Shares: dec.Of(2), Period: 1, Stake: dec.Of(2)}
	b.pasts = map[place]past{{16, 1}: {value(parsed(t, "2.5")), 2}}
	b.purses[20], b.purses[shared], b.pool = api.Account{Coins: 2}, api.Account{Coins: 98}, value(parsed(t, "0.5"))
	wantBook(t, "P14.5: behind Withdraw", s, b)
}

// P14.5: neither validator nor delegation may be missing; then nothing changes.
func TestWithdrawOfNothing(t *testing.T) {
	b := owed(t, "10", "1", 100)
	b.vals[17] = b.vals[16]
	b.dels[pair{18, 20}] = b.dels[pair{16, 20}]
	s := b.store()
	for _, x := range []pair{{16, 21}, {16, 16}, {20, 16}, {17, 20}, {18, 20}, {19, 20}, {18, 21}, {0, 0}, {top, top}, {20, 20}} {
		paid, e := dist.Withdraw(s, x.val, x.del)
		wantErr(t, "P14.5: Withdraw of nothing", e, api.ErrDistNone)
		wantPaid(t, "P14.5: Withdraw of nothing", paid, api.Paid{})
		wantBook(t, "P14.5: Withdraw of nothing", s, b)
	}
	_, e := dist.Withdraw(kv.New(), 16, 20)
	wantErr(t, "P14.5: Withdraw from an empty store", e, api.ErrDistNone)
}

// P14.5: also of who can't be paid, and of one without shares or tokens.
func TestWithdrawAtTheEdges(t *testing.T) {
	for _, del := range []uint64{0, 5, 15, collector, shared, 16, top} {
		for _, tokens := range []uint64{0, 4, top} {
			for _, shares := range []string{"0", "4", hair} {
				b := owed(t, "10", "1", 100)
				v := b.vals[16]
				v.Tokens, v.Shares = tokens, parsed(t, shares)
				b.vals[16], b.dels[pair{16, del}] = v, b.dels[pair{16, 20}]
				s := b.store()
				doWithdraw(t, s, b, 16, del)
				wantBook(t, "P14.5: at the edges", s, b)
			}
		}
	}
}

// P14.5: whatever lies there, by another arithmetic.
func TestWithdrawDrawn(t *testing.T) {
	r := rand.New(rand.NewSource(147))
	for range 1500 {
		b := drawnBook(r)
		s := b.store()
		for range 4 {
			doWithdraw(t, s, b, drawnId(r), drawnDel(r))
			wantBook(t, "P14.5: whatever lies there", s, b)
		}
	}
}

// earned tells a book in which 16 has that commission, that is outstanding, and Shared so many coins.
func earned(t *testing.T, commission, outstanding string, coins uint64) *book {
	t.Helper()
	b := newBook()
	v := full(5, 6)
	v.Commission, v.Outstanding = parsed(t, commission), parsed(t, outstanding)
	b.vals[16] = v
	b.purses[shared] = api.Account{Coins: coins}
	return b
}

// P14.5, by hand: a commission's whole part is paid, if it is a coin at least and Shared has as many.
func TestCommission(t *testing.T) {
	for _, x := range []struct {
		commission, outstanding string
		coins, own, n           uint64
		e                       api.Errno
		left, outLeft           string
	}{
		{"6.5", "10", 100, 0, 6, api.OK, "0.5", "4"},
		{"6", "10", 6, 1, 6, api.OK, "0", "4"},
		{"6.5", "4.5", 100, 0, 6, api.OK, "0.5", "0"},
		{"1", "1", 1, supply - 1, 1, api.OK, "0", "0"},
		{"1000000000000000000", "3", supply, 0, supply, api.OK, "0", "0"},
		{"1", "1", 1, supply, 0, api.ErrBankMuch, "1", "1"},
		{"6.5", "10", 5, 0, 0, api.ErrBankShort, "6.5", "10"},
		{"1", "1", 0, supply, 0, api.ErrBankShort, "1", "1"},
		{"0.999999999999999999999999999999999999", "10", 100, 0, 0, api.ErrDistSmall, "0.999999999999999999999999999999999999", "10"},
		{"0", "10", 0, 0, 0, api.ErrDistSmall, "0", "10"},
		{"18446744073709551615.9", "10", supply, 0, 0, api.ErrBankShort, "18446744073709551615.9", "10"},
		{"18446744073709551616", "10", supply, 0, 0, api.ErrBankShort, "18446744073709551616", "10"},
		{"18446744073709551617", "10", supply, 0, 0, api.ErrBankShort, "18446744073709551617", "10"},
		{"340282366920938463463374607431768211457", "10", supply, 0, 0, api.ErrBankShort, "340282366920938463463374607431768211457", "10"},
	} {
		b := earned(t, x.commission, x.outstanding, x.coins)
		b.purses[16] = api.Account{Coins: x.own, Seq: 4}
		s := b.store()
		n, e := dist.Commission(s, 16)
		wantErr(t, "P14.5: Commission of "+x.commission, e, x.e)
		if n != x.n {
			t.Errorf("P14.5: Commission of %s: %d, not %d", x.commission, n, x.n)
		}
		v := b.vals[16]
		v.Commission, v.Outstanding = parsed(t, x.left), parsed(t, x.outLeft)
		b.vals[16] = v
		b.purses[16], b.purses[shared] = api.Account{Coins: x.own + x.n, Seq: 4}, api.Account{Coins: x.coins - x.n}
		wantBook(t, "P14.5: behind Commission of "+x.commission, s, b)
	}
}

// P14.5: which error comes first: no validator, less than a coin, too many for a uint64, what bank.Move says.
func TestWhichCommissionErrors(t *testing.T) {
	for commission, want := range map[string]api.Errno{"0.5": api.ErrDistSmall, "18446744073709551616": api.ErrBankShort, "7": api.ErrBankId, "200": api.ErrBankId} {
		b := earned(t, commission, "900", 100)
		for _, id := range []uint64{0, 5, 15} {
			b.vals[id] = b.vals[16]
			s := b.store()
			n, e := dist.Commission(s, id)
			wantErr(t, "P14.5: Commission of no account", e, want)
			if n != 0 {
				t.Errorf("P14.5: beside an error: %d", n)
			}
			wantBook(t, "P14.5: Commission of no account", s, b)
		}
	}
	b := earned(t, "7", "900", 100)
	b.dels[pair{17, 16}], b.bonded[17] = api.Delegation{Shares: dec.Of(3)}, true
	for _, id := range []uint64{0, 4, 5, 15, 17, top} {
		n, e := dist.Commission(b.store(), id)
		wantErr(t, "P14.5: Commission of no validator", e, api.ErrDistNone)
		if n != 0 {
			t.Errorf("P14.5: beside an error: %d", n)
		}
	}
}

// P14.5: whatever lies there, by another arithmetic.
func TestCommissionDrawn(t *testing.T) {
	r := rand.New(rand.NewSource(148))
	done := 0
	for range 1500 {
		b := drawnBook(r)
		s := b.store()
		for range 4 {
			was := b.purses[shared]
			doCommission(t, s, b, drawnId(r))
			wantBook(t, "P14.5: whatever lies there", s, b)
			if b.purses[shared] != was {
				done++
			}
		}
	}
	if done < 100 {
		t.Errorf("P14.5: only %d were paid", done)
	}
}
