package ante_test

import (
	"testing"

	"glean/ante"
	"glean/api"
	"glean/bank"
	"glean/kv"
	"glean/stake"
)

// P18.1: the numbers are the chapter's.
func TestNumbers(t *testing.T) {
	if api.ErrAnteWho != 180 || api.ErrAnteFee != 181 || api.ErrAntePay != 182 || api.ErrAnteSeq != 183 || api.FirstUser != 16 || api.Collector != collector {
		t.Error("P18.1: the chapter's numbers are others")
	}
}

// P18.1: the chapter's examples, and what lies there behind them.
func TestExamples(t *testing.T) {
	s := kv.New()
	stake.SetParams(s, api.Params{Fee: 3})
	bank.Mint(s, 16, 10)
	wantErr(t, s, 16, 0, 3, api.OK)
	wantErr(t, s, 16, 0, 3, api.ErrAnteSeq)
	wantErr(t, s, 16, 1, 2, api.ErrAnteFee)
	wantErr(t, s, 16, 1, 8, api.ErrAntePay)
	wantErr(t, s, 4, 0, 3, api.ErrAnteWho)
	if a, c := bank.Get(s, 16), bank.Get(s, api.Collector); a != (api.Account{Coins: 7, Seq: 1}) || c != (api.Account{Coins: 3}) {
		t.Errorf("P18.1: the sender %+v, the collector %+v", a, c)
	}
}

// P18.1: who sends is a user, from FirstUser on; nobody else, whatever lies of it.
func TestWhoSends(t *testing.T) {
	for id := range uint64(16) {
		s := begun(3, map[uint64]api.Account{id: {Coins: 10}})
		wantErr(t, s, id, 0, 3, api.ErrAnteWho)
		wantErr(t, s, id, 1, 0, api.ErrAnteWho)
		wantErr(t, begun(0, nil), id, 0, 0, api.ErrAnteWho)
	}
	for _, id := range []uint64{16, 17, 255, 256, 1 << 32, 1<<32 + 1, 1 << 63, top - 1, top} {
		s := begun(3, map[uint64]api.Account{id: {Coins: 10}})
		wantErr(t, s, id, 0, 3, api.OK)
		wantErr(t, s, id, 1, 7, api.OK)
	}
}

// P18.1: a fee is the params' or more.
func TestFeeIsEnough(t *testing.T) {
	for _, least := range []uint64{1, 2, 3, 255, 256, api.MaxFee, supply} {
		has := map[uint64]api.Account{16: {Coins: supply}}
		wantErr(t, begun(least, has), 16, 0, 0, api.ErrAnteFee)
		wantErr(t, begun(least, has), 16, 0, least-1, api.ErrAnteFee)
		wantErr(t, begun(least, has), 16, 0, least, api.OK)
		wantErr(t, begun(least, has), 16, 0, supply, api.OK)
	}
	wantErr(t, begun(top, map[uint64]api.Account{16: {Coins: supply}}), 16, 0, supply, api.ErrAnteFee)
	wantErr(t, begun(top, map[uint64]api.Account{16: {Coins: supply}}), 16, 0, top, api.ErrAntePay)
}

// P18.1: of the params the Fee counts, no other one.
func TestOtherParamsDontCount(t *testing.T) {
	s := begun(0, map[uint64]api.Account{16: {Coins: 10}})
	stake.SetParams(s, api.Params{Max: 99, Unbond: 99, Entries: 99, Tax: 99, Double: 99, Down: 99, Jail: 99, Age: 99, Fee: 3, Keeper: 99})
	wantErr(t, s, 16, 0, 2, api.ErrAnteFee)
	wantErr(t, s, 16, 0, 3, api.OK)
}

// P18.1: where no params lie, their Fee is 0; a fee of 0 is paid by one of whom nothing lies, and its sequence is one greater.
func TestFeeOfNothing(t *testing.T) {
	for _, s := range []*kv.Store{kv.New(), begun(0, nil)} {
		wantErr(t, s, 16, 1, 0, api.ErrAnteSeq)
		wantErr(t, s, 16, 0, 1, api.ErrAntePay)
		wantErr(t, s, 16, 0, 0, api.OK)
		wantErr(t, s, 16, 1, 0, api.OK)
		if a, c := bank.Get(s, 16), bank.Get(s, api.Collector); a != (api.Account{Seq: 2}) || c != (api.Account{}) {
			t.Errorf("P18.1: without a fee: the sender %+v, the collector %+v", a, c)
		}
	}
}

// P18.1: the sender has as many coins as the fee, or more.
func TestFeeCanBePaid(t *testing.T) {
	for _, coins := range []uint64{3, 4, 255, 256, supply - 1, supply} {
		has := map[uint64]api.Account{16: {Coins: coins}, 17: {Coins: supply}}
		wantErr(t, begun(3, has), 16, 0, coins-1, map[bool]api.Errno{true: api.ErrAnteFee, false: api.OK}[coins == 3])
		wantErr(t, begun(3, has), 16, 0, coins, api.OK)
		wantErr(t, begun(3, has), 16, 0, coins+1, api.ErrAntePay)
		wantErr(t, begun(3, has), 16, 0, top, api.ErrAntePay)
	}
	wantErr(t, begun(3, nil), 16, 0, 3, api.ErrAntePay)
	wantErr(t, begun(3, map[uint64]api.Account{16: {Coins: 2}}), 16, 0, 3, api.ErrAntePay)
}

// P18.1: the sequence is the sender's own, neither the one ahead of it nor the one behind.
func TestSequence(t *testing.T) {
	for _, seq := range []uint64{0, 1, 2, 255, 256, 1 << 32, 1 << 63, top - 1, top} {
		for _, other := range []uint64{seq - 1, seq + 1, seq ^ 1<<63, seq ^ 1<<32, ^seq} {
			s := begun(3, map[uint64]api.Account{16: {Coins: 10, Seq: seq}, 17: {Coins: 10, Seq: other}})
			wantErr(t, s, 16, other, 3, api.ErrAnteSeq)
			wantErr(t, s, 16, seq, 3, api.OK)
			wantErr(t, s, 17, other, 3, api.OK)
			wantErr(t, s, 16, seq+1, 3, api.OK)
		}
	}
}

// P18.1: behind 2^64 - 1 a sequence is 0; if no coins are left, nothing of the sender lies there then.
func TestSequenceGoesRound(t *testing.T) {
	s := begun(3, map[uint64]api.Account{16: {Coins: 3, Seq: top}, 17: {Coins: 6, Seq: top}})
	wantErr(t, s, 16, top, 3, api.OK)
	wantErr(t, s, 17, top, 3, api.OK)
	if s.Has([]byte(accountKey(16))) || bank.Get(s, 17) != (api.Account{Coins: 3}) {
		t.Errorf("P18.1: round 2^64: %+v, %+v", bank.Get(s, 16), bank.Get(s, 17))
	}
	wantErr(t, s, 17, 0, 3, api.OK)
}

// P18.1: the coins that the collector can't take are refused by bank.Move's error, and nothing has changed, the sequence neither.
func TestCollectorIsFull(t *testing.T) {
	s := begun(3, map[uint64]api.Account{16: {Coins: 10}, collector: {Coins: supply - 3, Seq: 5}})
	wantErr(t, s, 16, 0, 4, api.ErrBankMuch)
	wantErr(t, s, 16, 1, 4, api.ErrAnteSeq)
	wantErr(t, s, 16, 0, 3, api.OK)
	wantErr(t, s, 16, 1, 3, api.ErrBankMuch)
	wantErr(t, s, 16, 0, 3, api.ErrAnteSeq)
	stake.SetParams(s, api.Params{})
	wantErr(t, s, 16, 1, 0, api.OK)
	if c := bank.Get(s, api.Collector); c != (api.Account{Coins: supply, Seq: 5}) {
		t.Errorf("P18.1: the collector: %+v", c)
	}
}

// P18.1: where several errors apply, the first one is told.
func TestWhichErrorComesFirst(t *testing.T) {
	s := begun(5, map[uint64]api.Account{16: {Coins: 7, Seq: 2}, 17: {Coins: 4, Seq: 2}, 4: {Coins: 7, Seq: 2}, collector: {Coins: supply}})
	for _, c := range []struct {
		sender, seq, fee uint64
		want             api.Errno
	}{
		{15, 9, 4, api.ErrAnteWho},
		{4, 2, 4, api.ErrAnteWho},
		{4, 2, 8, api.ErrAnteWho},
		{4, 9, 5, api.ErrAnteWho},
		{4, 2, 5, api.ErrAnteWho},
		{collector, 0, 5, api.ErrAnteWho},
		{18, 9, 4, api.ErrAnteFee},
		{17, 2, 4, api.ErrAnteFee},
		{16, 9, 4, api.ErrAnteFee},
		{16, 2, 4, api.ErrAnteFee},
		{18, 9, 5, api.ErrAntePay},
		{17, 2, 5, api.ErrAntePay},
		{16, 9, 8, api.ErrAntePay},
		{16, 2, 8, api.ErrAntePay},
		{16, 9, 7, api.ErrAnteSeq},
		{16, 1, 5, api.ErrAnteSeq},
		{16, 2, 5, api.ErrBankMuch},
	} {
		wantErr(t, s, c.sender, c.seq, c.fee, c.want)
	}
}

// P18.1: all edges with one another.
func TestAllEdges(t *testing.T) {
	told := map[api.Errno]int{}
	for _, least := range []uint64{0, 1, 3, supply, top} {
		for _, coins := range []uint64{0, 1, 3, supply} {
			for _, full := range []uint64{0, supply - 3, supply} {
				for _, sender := range []uint64{0, collector, 2, 5, 15, 16, 17, top} {
					for _, fee := range []uint64{0, 1, 2, 3, 4, supply, supply + 1, top} {
						for _, seq := range []uint64{0, 1, 2, top} {
							s := begun(least, map[uint64]api.Account{sender: {Coins: coins, Seq: 1}, collector: {Coins: full}})
							told[wantAdmit(t, s, api.Tx{Sender: sender, Seq: seq, Fee: fee})]++
						}
					}
				}
			}
		}
	}
	for _, e := range []api.Errno{api.OK, api.ErrAnteWho, api.ErrAnteFee, api.ErrAntePay, api.ErrAnteSeq, api.ErrBankMuch} {
		if told[e] == 0 {
			t.Errorf("P18.1: no edge tells %v", e)
		}
	}
}

// P18.1: what a transaction asks for doesn't count, be it a message or none.
func TestMessagesDontCount(t *testing.T) {
	s := begun(3, map[uint64]api.Account{16: {Coins: supply}})
	for kind := -1; kind <= 12; kind++ {
		for _, m := range []api.Msg{{Kind: kind}, {Kind: kind, A: 16, B: 17, N: top}, {Kind: kind, A: 5, N: supply}} {
			x := api.Tx{Sender: 16, Seq: bank.Get(s, 16).Seq, Fee: 3, Msg: m}
			if e := wantAdmit(t, s, x); e != api.OK {
				t.Errorf("P18.1: Admit(%+v): %v", x, e)
			}
			if e := ante.Admit(s, x); e != api.ErrAnteSeq {
				t.Errorf("P18.2: Admit(%+v) twice: %v", x, e)
			}
		}
	}
}
