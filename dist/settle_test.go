package dist_test

import (
	"math/rand"
	"testing"

	"glean/api"
	"glean/dec"
	"glean/dist"
)

// owed tells a book in which delegator 20 has a claim of 2.5 a coin of Current behind 4 tokens: Current 10, a stake of 1; so much is outstanding, of that so much commission, and Shared has so many coins.
func owed(t *testing.T, outstanding, commission string, coins uint64) *book {
	t.Helper()
	b := newBook()
	b.vals[16] = api.Validator{
		Rate: 3, Tokens: 4, Shares: dec.Of(4), Bonded: true, Until: 9, Period: 1,
		Current: dec.Of(10), Outstanding: parsed(t, outstanding), Commission: parsed(t, commission),
	}
	b.dels[pair{16, 20}] = api.Delegation{Shares: dec.Of(2), Stake: dec.Of(1)}
	b.pasts[place{16, 0}] = past{value(dec.Of(0)), 2}
	b.purses[shared] = api.Account{Coins: coins}
	return b
}

// P14.4, by hand: a claim of 2.5 is paid as far as Outstanding less Commission and Shared's coins reach.
func TestHowMuchIsPaid(t *testing.T) {
	for _, x := range []struct {
		outstanding, commission string
		coins, w                uint64
		q, left                 string
	}{
		{"10", "1", 100, 2, "0.5", "7.5"},
		{"10", "7.5", 100, 2, "0.5", "7.5"},
		{"10", "7.6", 100, 2, "0.4", "7.6"},
		{"10", "8.5", 100, 1, "0.5", "8.5"},
		{"10", "9.25", 100, 0, "0.75", "9.25"},
		{"10", "10", 100, 0, "0", "10"},
		{"10", "11", 100, 0, "0", "10"},
		{"2.5", "0", 100, 2, "0.5", "0"},
		{"2.4", "0", 100, 2, "0.4", "0"},
		{"0", "0", 100, 0, "0", "0"},
		{"10", "1", 3, 2, "0.5", "7.5"},
		{"10", "1", 2, 2, "0", "8"},
		{"10", "1", 1, 1, "0", "9"},
		{"10", "1", 0, 0, "0", "10"},
		{"10", "9.5", 1, 0, "0.5", "9.5"},
		{"10", "8.75", 1, 1, "0", "9"},
	} {
		b := owed(t, x.outstanding, x.commission, x.coins)
		s, v := b.store(), b.vals[16]
		got, paid := dist.Settle(s, 16, v, 20)
		wantPaid(t, "P14.4: Settle", paid, api.Paid{Val: 16, Del: 20, W: x.w, Q: parsed(t, x.q)})
		v.Period, v.Current, v.Outstanding = 2, api.Dec{}, parsed(t, x.left)
		wantVal(t, "P14.4: Settle", got, v)
		b.purses[20], b.purses[shared] = api.Account{Coins: x.w}, api.Account{Coins: x.coins - x.w}
		b.pool = value(parsed(t, x.q))
		b.pasts = map[place]past{{16, 1}: {value(parsed(t, "2.5")), 1}}
		wantBook(t, "P14.4: no record but these is laid", s, b)
	}
}

// P14.4: a delegator to whom coins can't go is paid nothing, not even what is left; all else is done.
func TestRefusedDelegators(t *testing.T) {
	for _, x := range []struct {
		del, coins, w uint64
		q             string
	}{
		{20, supply - 3, 2, "0.5"}, {20, supply - 2, 2, "0.5"}, {20, supply - 1, 0, "0"}, {20, supply, 0, "0"},
		{0, 0, 0, "0"}, {5, 0, 0, "0"}, {15, 0, 0, "0"}, {16, 0, 2, "0.5"}, {shared, 100, 2, "0.5"}, {collector, 5, 2, "0.5"}, {top, 0, 2, "0.5"},
	} {
		b := owed(t, "10", "1", 100)
		b.dels = map[pair]api.Delegation{{16, x.del}: b.dels[pair{16, 20}]}
		if x.coins > 0 {
			b.purses[x.del] = api.Account{Coins: x.coins, Seq: 2}
		}
		s := b.store()
		got, paid := dist.Settle(s, 16, b.vals[16], x.del)
		want, _ := b.settle(16, b.vals[16], x.del)
		wantPaid(t, "P14.4: to whomever", paid, api.Paid{Val: 16, Del: x.del, W: x.w, Q: parsed(t, x.q)})
		wantVal(t, "P14.4: to whomever", got, want)
		wantBook(t, "P14.4: to whomever", s, b)
	}
	b := owed(t, "0.5", "0", 100)
	b.dels = map[pair]api.Delegation{{16, 7}: b.dels[pair{16, 20}]}
	_, paid := dist.Settle(b.store(), 16, b.vals[16], 7)
	wantPaid(t, "P14.4: no coins to no account", paid, api.Paid{Val: 16, Del: 7})
}

// P14.4: without tokens Current goes to the pool, ahead of what is paid.
func TestSettleWithoutTokens(t *testing.T) {
	b := owed(t, "12", "1.5", 100)
	v := b.vals[16]
	v.Tokens = 0
	b.pasts[place{16, 0}] = past{value(dec.Of(3)), 2}
	b.dels[pair{16, 20}] = api.Delegation{Shares: dec.Of(2), Period: 5, Stake: dec.Of(1)}
	s := b.store()
	got, paid := dist.Settle(s, 16, v, 20)
	wantPaid(t, "P14.4: without tokens", paid, api.Paid{Val: 16, Del: 20, Q: parsed(t, "0.5")})
	wantDec(t, "P14.4: what is outstanding", got.Outstanding, parsed(t, "1.5"))
	wantDec(t, "P14.4: what goes to the pool", dist.Pool(s), parsed(t, "10.5"))
	b.settle(16, v, 20)
	wantBook(t, "P14.4: without tokens", s, b)
}

// P14.4: it is the handed validator that counts, not the one that lies there, which stays, or needn't be there.
func TestSettleOfWhatIsHanded(t *testing.T) {
	b := owed(t, "10", "1", 100)
	v := b.vals[16]
	for _, there := range []bool{true, false} {
		now := b.copied()
		now.vals[16] = full(1, 2)
		if !there {
			delete(now.vals, 16)
		}
		s := now.store()
		got, paid := dist.Settle(s, 16, v, 20)
		want, wanted := now.settle(16, v, 20)
		wantVal(t, "P14.4: another record lies there", got, want)
		wantPaid(t, "P14.4: another record lies there", paid, wanted)
		wantBook(t, "P14.4: another record lies there", s, now)
		if paid.W != 2 {
			t.Errorf("P14.4: %v", paid)
		}
	}
}

// P14.4: along cuts.
func TestSettleAlongCuts(t *testing.T) {
	b := owed(t, "100", "1", 100)
	v := b.vals[16]
	v.Period = 4
	b.pasts = map[place]past{{16, 0}: {value(dec.Of(1)), 1}, {16, 2}: {value(dec.Of(5)), 1}, {16, 3}: {value(dec.Of(7)), 2}}
	b.cuts[place{16, 2}] = api.Cut{Before: 8, After: 4}
	s := b.store()
	_, paid := dist.Settle(s, 16, v, 20)
	wantPaid(t, "P14.4: 4 and half of 4.5", paid, api.Paid{Val: 16, Del: 20, W: 6, Q: parsed(t, "0.25")})
	b.settle(16, v, 20)
	wantBook(t, "P14.4: along a cut", s, b)
}

// P14.4: of a delegation that isn't there nothing is settled: nothing changes.
func TestSettleOfNothing(t *testing.T) {
	r := rand.New(rand.NewSource(145))
	for range 300 {
		b := drawnBook(r)
		s, v, id, del := b.store(), drawnVal(r), drawnId(r), 1000+drawnDel(r)%1000
		got, paid := dist.Settle(s, id, v, del)
		wantVal(t, "P14.4: no delegation", got, normalVal(v))
		wantPaid(t, "P14.4: no delegation", paid, api.Paid{Val: id, Del: del})
		wantBook(t, "P14.4: no delegation", s, b)
	}
}

// P14.4: whatever lies there, by another arithmetic.
func TestSettleDrawn(t *testing.T) {
	r := rand.New(rand.NewSource(146))
	for range 1500 {
		b := drawnBook(r)
		s := b.store()
		for range 4 {
			doSettle(t, r, s, b)
			wantBook(t, "P14.4: whatever lies there", s, b)
		}
	}
}
