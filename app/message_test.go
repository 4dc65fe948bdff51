package app_test

import (
	"fmt"
	"slices"
	"testing"

	"glean/api"
	"glean/app"
	"glean/dec"
)

// P20.3: what isn't an item is refused by Decode's error, and nothing has changed.
func TestNoItem(t *testing.T) {
	b := alone()
	e := engine(t, b)
	good := tx(16, 0, 1, send, 17, 1)
	doBlock(t, e, b)
	for _, x := range []struct {
		item []byte
		want api.Errno
	}{
		{nil, api.ErrMsgForm}, {[]byte{}, api.ErrMsgForm}, {[]byte{0x54}, api.ErrMsgForm}, {good[:len(good)-1], api.ErrMsgForm},
		{append(slices.Clone(good), 0), api.ErrMsgForm}, {tx(16, 0, 1, 0), api.ErrMsgForm}, {tx(16, 0, 1, 11, 17, 1), api.ErrMsgForm}, {tx(16, 0, 1, 255), api.ErrMsgForm},
		{tx(16, 0, 1, withdraw, 16, 1), api.ErrMsgForm}, {tx(16, 0, 1, redelegate, 16, 1), api.ErrMsgForm}, {make([]byte, 1024), api.ErrMsgForm},
		{make([]byte, 1025), api.ErrMsgLong}, {append(slices.Clone(good), make([]byte, 1000)...), api.ErrMsgLong}, {make([]byte, 1<<20), api.ErrMsgLong},
	} {
		r := e.Deliver(x.item)
		wantReply(t, fmt.Sprintf("P20.3: %x", x.item[:min(len(x.item), 40)]), r, api.Reply{Err: x.want})
		wantBook(t, "P20.6: behind what is no item", e.Store(), b)
	}
}

// P20.3, P20.6: who isn't admitted is told why, and nothing has changed.
func TestNotAdmitted(t *testing.T) {
	b := alone()
	b.params[0].Fee = 3
	e := engine(t, b)
	e.Begin()
	b.begin()
	for _, x := range []struct {
		sender, seq, fee uint64
		want             api.Errno
	}{
		{15, 0, 3, api.ErrAnteWho}, {2, 0, 3, api.ErrAnteWho}, {0, 9, 0, api.ErrAnteWho}, {20, 0, 2, api.ErrAnteFee}, {20, 1, 0, api.ErrAnteFee},
		{20, 0, 1001, api.ErrAntePay}, {99, 0, 3, api.ErrAntePay}, {20, 1, 3, api.ErrAnteSeq}, {20, top, 3, api.ErrAnteSeq},
	} {
		for kind := byte(1); kind <= 10; kind++ {
			at, _ := fields(kind)
			item := tx(x.sender, x.seq, x.fee, kind, []uint64{20, 20, 20}[:len(at)]...)
			wantReply(t, fmt.Sprintf("P20.3: %+v, kind %d", x, kind), e.Deliver(item), api.Reply{Err: x.want})
			wantBook(t, "P20.6: behind one that isn't admitted", e.Store(), b)
		}
	}
}

// asked: a message, and what is wanted of it.
type asked struct {
	sender uint64
	kind   byte
	uses   []uint64
	want   api.Reply
}

// wantAll does messages one behind the other, a block each, with a fee of 1, and fails unless each reply is as is wanted, and as the book has it; behind a refused one the fee and the sequence alone have changed.
func wantAll(t *testing.T, e *app.Engine, b *book, all ...asked) {
	t.Helper()
	for _, x := range all {
		item := tx(x.sender, b.seq(x.sender), 1, x.kind, x.uses...)
		wantReport(t, "P20.2: Begin", e.Begin(), b.begin())
		was := b.copied()
		got := e.Deliver(item)
		what := fmt.Sprintf("P20.3: kind %d of %d: %v", x.kind, x.sender, x.uses)
		wantReply(t, what, got, x.want)
		wantReply(t, what+": the book", b.deliver(item), x.want)
		wantBook(t, what, e.Store(), b)
		if x.want.Err != api.OK {
			a := was.purses[x.sender]
			was.purses[x.sender] = api.Account{Coins: a.Coins - 1, Seq: a.Seq + 1}
			was.mint(collector, 1)
			wantBook(t, what+": P20.6", e.Store(), was)
		}
		wantReport(t, "P20.2: End", e.End(), b.finish())
		wantSound(t, e.Store())
	}
}

// no tells a refused reply.
func no(e api.Errno) api.Reply { return api.Reply{Err: e} }

// P20.3: MsgSend: to users alone, as many coins as are left behind the fee.
func TestSend(t *testing.T) {
	b := alone()
	e := engine(t, b)
	wantAll(t, e, b,
		asked{20, send, []uint64{21, 7}, api.Reply{}},
		asked{20, send, []uint64{20, 5}, api.Reply{}},
		asked{20, send, []uint64{top, 0}, api.Reply{}},
		asked{20, send, []uint64{15, 5}, no(api.ErrAppTo)},
		asked{20, send, []uint64{15, 5000}, no(api.ErrAppTo)},
		asked{20, send, []uint64{0, 5}, no(api.ErrAppTo)},
		asked{20, send, []uint64{api.Collector, 5}, no(api.ErrAppTo)},
		asked{20, send, []uint64{api.Shared, 5}, no(api.ErrAppTo)},
		asked{20, send, []uint64{16, 985}, no(api.ErrBankShort)},
		asked{20, send, []uint64{20, top}, no(api.ErrBankShort)},
		asked{20, send, []uint64{16, 983}, no(api.ErrBankShort)},
		asked{20, send, []uint64{16, 980}, api.Reply{}},
	)
	wantCoins(t, "P20.3: 20's coins", b.purses[20].Coins, 1)
	wantCoins(t, "P20.3: 21's coins", b.purses[21].Coins, 1007)
}

// P20.3: MsgCreate: the shares, and a payment of nothing that tells how the validator stands.
func TestCreate(t *testing.T) {
	b := alone()
	e := engine(t, b)
	wantAll(t, e, b,
		asked{20, create, []uint64{500, 30}, api.Reply{Shares: dec.Of(30), Paid: []api.Paid{{Val: 20, Del: 20, Left: dec.Of(30), Shares: dec.Of(30), Tokens: 30}}}},
		asked{20, create, []uint64{500, 30}, no(api.ErrStakeTwice)},
		asked{21, create, []uint64{10001, 30}, no(api.ErrStakeRate)},
		asked{21, create, []uint64{10000, 0}, no(api.ErrStakeZero)},
		asked{21, create, []uint64{10000, 998}, no(api.ErrBankShort)},
		asked{21, create, []uint64{10000, 997}, no(api.ErrBankShort)},
		asked{21, create, []uint64{10000, 994}, api.Reply{Shares: dec.Of(994), Paid: []api.Paid{{Val: 21, Del: 21, Left: dec.Of(994), Shares: dec.Of(994), Tokens: 994}}}},
	)
	if v := b.vals[20]; v.Rate != 500 || v.Tokens != 30 {
		t.Errorf("P20.3: %+v", v)
	}
	doItem(t, e, b, fault(double, 20, 5))
	doItem(t, e, b, tx(20, 2, 1, undelegate, 20, 0))
	wantAll(t, e, b, asked{20, create, []uint64{0, 5}, no(api.ErrStakeTomb)})
}

// P20.3: MsgDelegate: the shares, and what was paid.
func TestDelegate(t *testing.T) {
	b := alone()
	b.params[0].Fee = 0
	e := engine(t, b)
	doItem(t, e, b, tx(22, 0, 50, send, 23, 1)) // 16 is given 50: 45 behind the commission, 0.3 a token
	wantAll(t, e, b,
		asked{17, delegate, []uint64{16, 30}, api.Reply{Shares: dec.Of(30), Paid: []api.Paid{{Val: 16, Del: 17, W: 15, Left: dec.Of(80), Shares: dec.Of(180), Tokens: 180}}}},
		asked{20, delegate, []uint64{16, 20}, api.Reply{Shares: dec.Of(20), Paid: []api.Paid{{Val: 16, Del: 20, Left: dec.Of(20), Shares: dec.Of(200), Tokens: 200}}}},
		asked{20, delegate, []uint64{19, 20}, no(api.ErrStakeNone)},
		asked{20, delegate, []uint64{16, 0}, no(api.ErrStakeZero)},
		asked{20, delegate, []uint64{16, 978}, no(api.ErrBankShort)},
		asked{20, delegate, []uint64{16, 977}, no(api.ErrBankShort)},
	)
}

// P20.3: MsgUndelegate: the coins, and what was paid; 0 wishes for all.
func TestUndelegate(t *testing.T) {
	b := alone()
	e := engine(t, b)
	doItem(t, e, b, tx(22, 0, 50, send, 23, 1))
	wantAll(t, e, b,
		asked{17, undelegate, []uint64{16, 20}, api.Reply{N: 20, Paid: []api.Paid{{Val: 16, Del: 17, W: 15, Left: dec.Of(30), Shares: dec.Of(130), Tokens: 130}}}},
		asked{17, undelegate, []uint64{16, 31}, no(api.ErrStakeMuch)},
		asked{17, undelegate, []uint64{16, 131}, no(api.ErrShareMuch)},
		asked{17, undelegate, []uint64{18, 1}, no(api.ErrStakeNone)},
		asked{18, undelegate, []uint64{16, 1}, no(api.ErrStakeNone)},
	)
	r := doItem(t, e, b, tx(17, b.seq(17), 1, undelegate, 16, 0))
	if r.Err != api.OK || r.N != 30 || len(r.Paid) != 1 || !dec.Zero(r.Paid[0].Left) || r.Paid[0].Tokens != 100 {
		t.Errorf("P20.3: all: %+v", r)
	}
	for range 3 {
		doItem(t, e, b, tx(16, b.seq(16), 1, undelegate, 16, 1))
	}
	wantAll(t, e, b, asked{16, undelegate, []uint64{16, 1}, no(api.ErrStakeEntries)})
}

// P20.3: the last one who leaves: the validator has ended, and all that stands behind it is 0.
func TestUndelegateTheLast(t *testing.T) {
	b := fit()
	b.create(16, 1000, 100)
	b.elect()
	e := engine(t, b)
	wantAll(t, e, b,
		asked{16, undelegate, []uint64{16, 0}, api.Reply{N: 100, Paid: []api.Paid{{Val: 16, Del: 16}}}},
		asked{16, undelegate, []uint64{16, 0}, no(api.ErrStakeNone)},
		asked{16, commission, nil, no(api.ErrDistNone)},
		asked{16, create, []uint64{7, 4}, api.Reply{Shares: dec.Of(4), Paid: []api.Paid{{Val: 16, Del: 16, Left: dec.Of(4), Shares: dec.Of(4), Tokens: 4}}}},
	)
}

// P20.3: MsgRedelegate: the coins, and both that were paid.
func TestRedelegate(t *testing.T) {
	b := alone()
	b.create(19, 0, 40)
	b.elect()
	e := engine(t, b)
	doItem(t, e, b, tx(22, 0, 190, send, 23, 1)) // 150 for 16, 15 of it the commission; 40 for 19
	wantAll(t, e, b,
		asked{17, redelegate, []uint64{16, 19, 20}, api.Reply{N: 20, Paid: []api.Paid{
			{Val: 16, Del: 17, W: 45, Left: dec.Of(30), Shares: dec.Of(130), Tokens: 130},
			{Val: 19, Del: 17, Left: dec.Of(20), Shares: dec.Of(60), Tokens: 60},
		}}},
		asked{17, redelegate, []uint64{16, 16, 20}, no(api.ErrStakeSelf)},
		asked{17, redelegate, []uint64{18, 19, 20}, no(api.ErrStakeNone)},
		asked{17, redelegate, []uint64{16, 18, 20}, no(api.ErrStakeNone)},
		asked{18, redelegate, []uint64{16, 19, 20}, no(api.ErrStakeNone)},
		asked{17, redelegate, []uint64{16, 19, 31}, no(api.ErrStakeMuch)},
	)
	r := doItem(t, e, b, tx(17, b.seq(17), 1, redelegate, 16, 19, 0))
	if r.N != 30 || len(r.Paid) != 2 || !dec.Zero(r.Paid[0].Left) || dec.Text(r.Paid[1].Left) != "50" {
		t.Errorf("P20.3: all: %+v", r)
	}
}

// P20.3: MsgWithdraw: what was paid, and no other field.
func TestWithdraw(t *testing.T) {
	b := alone()
	e := engine(t, b)
	doItem(t, e, b, tx(22, 0, 100, send, 23, 1)) // 90 behind the commission, 0.6 a token
	wantAll(t, e, b,
		asked{17, withdraw, []uint64{16}, api.Reply{Paid: []api.Paid{{Val: 16, Del: 17, W: 30, Left: dec.Of(50), Shares: dec.Of(150), Tokens: 150}}}},
		asked{17, withdraw, []uint64{17}, no(api.ErrDistNone)},
		asked{18, withdraw, []uint64{16}, no(api.ErrDistNone)},
	)
}

// P20.3: MsgCommission: of the sender's own validator, the whole coins.
func TestCommission(t *testing.T) {
	b := alone()
	e := engine(t, b)
	wantAll(t, e, b, asked{16, commission, nil, no(api.ErrDistSmall)})
	doItem(t, e, b, tx(22, 0, 108, send, 23, 1)) // with the 1 of above: 0.1 and 10.8 of commission
	wantAll(t, e, b,
		asked{17, commission, nil, no(api.ErrDistNone)},
		asked{16, commission, nil, api.Reply{N: 11}}, // and 0.1 of the fee behind
		asked{16, commission, nil, no(api.ErrDistSmall)},
	)
}

// P20.3: MsgUnjail: of the sender's own validator.
func TestUnjail(t *testing.T) {
	b := alone()
	e := engine(t, b)
	doItem(t, e, b, fault(down, 16, 5))
	wantAll(t, e, b,
		asked{16, unjail, nil, no(api.ErrSlashWait)},
		asked{17, unjail, nil, no(api.ErrSlashNone)},
		asked{16, unjail, nil, api.Reply{}},
		asked{16, unjail, nil, no(api.ErrSlashFree)},
	)
	doItem(t, e, b, fault(double, 16, 5))
	wantAll(t, e, b, asked{16, unjail, nil, no(api.ErrSlashTomb)})
}

// P20.3: MsgFund and MsgSpend: the pool is the keeper's to spend, to users alone.
func TestFundAndSpend(t *testing.T) {
	b := alone()
	e := engine(t, b)
	wantAll(t, e, b,
		asked{20, fund, []uint64{60}, api.Reply{}},
		asked{20, fund, []uint64{939}, no(api.ErrBankShort)},
		asked{20, fund, []uint64{0}, api.Reply{}},
		asked{20, spend, []uint64{20, 1}, no(api.ErrAppKeeper)},
		asked{20, spend, []uint64{15, 1}, no(api.ErrAppKeeper)},
		asked{17, spend, []uint64{20, 1000}, no(api.ErrAppKeeper)},
		asked{18, spend, []uint64{15, 1}, no(api.ErrAppTo)},
		asked{18, spend, []uint64{15, 1000}, no(api.ErrAppTo)},
		asked{18, spend, []uint64{api.Shared, 1}, no(api.ErrAppTo)},
		asked{18, spend, []uint64{20, 61}, no(api.ErrDistPool)},
		asked{18, spend, []uint64{20, 41}, api.Reply{}},
		asked{18, spend, []uint64{18, 19}, api.Reply{}},
		asked{18, spend, []uint64{16, 1}, no(api.ErrDistPool)},
		asked{18, spend, []uint64{16, 0}, api.Reply{}},
	)
	wantCoins(t, "P20.3: 20's coins", b.purses[20].Coins, 1000-60-5+41)
}

// P20.3: a fault: what was paid by those who moved, and the coins that were cut; or why not. Nobody pays for it.
func TestFault(t *testing.T) {
	b := alone()
	b.create(19, 0, 40)
	b.elect()
	e := engine(t, b)
	doBlock(t, e, b, tx(17, 0, 1, redelegate, 16, 19, 20), tx(17, 1, 1, undelegate, 16, 10))
	r := doBlock(t, e, b, fault(0, 16, 5), fault(3, 16, 5), fault(255, 16, 5), fault(down, 17, 5), fault(down, 16, 7), fault(down, 16, 5), fault(down, 16, 5))
	for i, want := range []api.Errno{api.ErrSlashKind, api.ErrSlashKind, api.ErrSlashKind, api.ErrSlashNone, api.ErrSlashTime, api.OK, api.ErrSlashJail} {
		wantErr(t, fmt.Sprintf("P20.3: fault %d", i), r.Replies[i].Err, want)
	}
	got := r.Replies[5]
	wantCoins(t, "P20.3: what was cut", got.N, 12+2+1)
	if len(got.Paid) != 1 || got.Paid[0].Val != 19 || got.Paid[0].Del != 17 || dec.Text(got.Paid[0].Left) != "18" || len(got.Shares.Raw) != 0 {
		t.Errorf("P20.3: a fault: %+v", got)
	}
	for kind, want := range []api.Errno{double: api.OK, down: api.ErrSlashTomb} {
		if kind > 0 {
			wantErr(t, "P20.3: a fault", doItem(t, e, b, fault(byte(kind), 16, 6)).Err, want)
		}
	}
}

// P20.3: a message sees what the ones ahead of it in the block did, and its own fee; one that is refused is as if it weren't there.
func TestWithinABlock(t *testing.T) {
	b := alone()
	e := engine(t, b)
	r := doBlock(t, e, b,
		tx(20, 0, 400, send, 30, 500), tx(30, 0, 1, create, 0, 400), tx(30, 1, 1, send, 31, 99), tx(30, 1, 1, send, 31, 98),
		tx(30, 2, 1, send, 31, 98), tx(30, 3, 1, send, 31, 96), tx(31, 0, 96, delegate, 30, 1), tx(30, 4, 0, fund, 0), tx(30, 4, 1, undelegate, 30, 0))
	for i, want := range []api.Errno{0, 0, api.ErrBankShort, api.ErrAnteSeq, api.ErrBankShort, 0, api.ErrBankShort, api.ErrAnteFee, api.ErrAntePay} {
		wantErr(t, fmt.Sprintf("P20.3: item %d", i), r.Replies[i].Err, want)
	}
	if a := b.purses[31]; a != (api.Account{Seq: 1}) {
		t.Errorf("P20.3: who has paid all for a fee: %+v", a)
	}
}
