package dist_test

import (
	"testing"

	"glean/api"
	"glean/dec"
	"glean/dist"
)

// P14.6: Fund of any id and any number: refused as bank.Move is, or as much goes to Shared and to the pool.
func TestFund(t *testing.T) {
	for _, have := range []uint64{0, 1, supply - 1, supply} {
		for _, lies := range []uint64{0, 5, supply - 5, supply} {
			for _, id := range append(numbers(), collector, 2, 3) {
				for _, n := range []uint64{0, 1, 5, 6, have, have + 1, supply - 1, supply, supply + 1, top} {
					b := newBook()
					b.purses[id] = api.Account{Coins: have}
					b.purses[shared] = api.Account{Coins: lies}
					b.pour(value(dec.Of(2)))
					s := b.store()
					wantErr(t, "P14.6: Fund", dist.Fund(s, id, n), b.fund(id, n))
					wantBook(t, "P14.6: behind Fund", s, b)
				}
			}
		}
	}
}

// P14.6, by hand: what is refused, and by which error.
func TestFundByHand(t *testing.T) {
	b := newBook()
	b.purses[20], b.purses[21] = api.Account{Coins: 10}, api.Account{Coins: supply}
	b.purses[shared] = api.Account{Coins: 1}
	s := b.store()
	for _, x := range []struct {
		id, n uint64
		want  api.Errno
	}{{20, 11, api.ErrBankShort}, {5, 0, api.ErrBankId}, {0, 1, api.ErrBankId}, {22, 1, api.ErrBankShort}, {21, supply, api.ErrBankMuch}} {
		wantErr(t, "P14.6: Fund", dist.Fund(s, x.id, x.n), x.want)
		wantBook(t, "P14.6: a refused Fund", s, b)
	}
	wantErr(t, "P14.6: Fund of nothing", dist.Fund(s, 22, 0), api.OK)
	wantBook(t, "P14.6: Fund of nothing", s, b)
	wantErr(t, "P14.6: Fund of all", dist.Fund(s, 20, 10), api.OK)
	b.purses[20], b.purses[shared], b.pool = api.Account{}, api.Account{Coins: 11}, coins(10)
	wantBook(t, "P14.6: Fund of all", s, b)
}

// P14.6, by hand: the pool may be spent to its last whole coin, and what is below one stays; without anything left nothing lies there.
func TestSpendByHand(t *testing.T) {
	for _, x := range []struct {
		pool         string
		coins, to, n uint64
		want         api.Errno
		left         string
	}{
		{"10", 10, 21, 10, api.OK, "0"},
		{"10", 10, 21, 11, api.ErrDistPool, "10"},
		{"10.5", 99, 21, 10, api.OK, "0.5"},
		{"10.5", 99, 21, 11, api.ErrDistPool, "10.5"},
		{"9.999999999999999999999999999999999999", 99, 21, 10, api.ErrDistPool, "9.999999999999999999999999999999999999"},
		{"10", 10, 21, 0, api.OK, "10"},
		{"0", 10, 21, 0, api.OK, "0"},
		{"0", 10, 21, 1, api.ErrDistPool, "0"},
		{"0", 0, 5, 0, api.ErrBankId, "0"},
		{"10", 10, 5, 11, api.ErrDistPool, "10"},
		{"10", 10, 5, 10, api.ErrBankId, "10"},
		{"10", 10, 0, 0, api.ErrBankId, "10"},
		{"10", 9, 21, 10, api.ErrBankShort, "10"},
		{"10", 10, 22, 1, api.ErrBankMuch, "10"},
		{"10", 10, 22, 11, api.ErrDistPool, "10"},
		{"10", 10, shared, 4, api.OK, "6"},
		{"36893488147419103230", supply, 21, top, api.ErrBankShort, "36893488147419103230"},
	} {
		b := newBook()
		b.pool = value(parsed(t, x.pool))
		b.purses[shared], b.purses[22] = api.Account{Coins: x.coins}, api.Account{Coins: supply}
		s := b.store()
		wantErr(t, "P14.6: Spend", dist.Spend(s, x.to, x.n), x.want)
		wantDec(t, "P14.6: the pool", dist.Pool(s), parsed(t, x.left))
		wantErr(t, "P14.6: Spend", b.spend(x.to, x.n), x.want)
		wantBook(t, "P14.6: behind Spend", s, b)
	}
}

// P14.6: Spend to any id, of any number.
func TestSpend(t *testing.T) {
	for _, pool := range []string{"0", "0.5", "1", "5.5", "1000000000000000000", "36893488147419103230"} {
		for _, lies := range []uint64{0, 5, supply} {
			for _, to := range append(numbers(), collector, 2, 3) {
				for _, n := range []uint64{0, 1, 5, 6, supply - 1, supply, supply + 1, top} {
					b := newBook()
					b.pool = value(parsed(t, pool))
					b.purses[to] = api.Account{Coins: 1, Seq: 1}
					b.purses[shared] = api.Account{Coins: lies}
					s := b.store()
					wantErr(t, "P14.6: Spend", dist.Spend(s, to, n), b.spend(to, n))
					wantBook(t, "P14.6: behind Spend", s, b)
				}
			}
		}
	}
}
