package audit_test

import (
	"bytes"
	"encoding/binary"
	"math/big"
	"slices"
	"testing"

	"glean/api"
	"glean/audit"
	"glean/dec"
	"glean/kv"
)

const top = ^uint64(0)

// The kinds of messages and faults, as the document numbers them.
const (
	send = iota + 1
	create
	delegate
	undelegate
	redelegate
	withdraw
	commission
	unjail
	fund
	spend
)

const (
	double = iota + 1
	down
)

// scale: what a Raw is divided by, reckoned by none of the project's calls.
var scale = new(big.Int).Exp(big.NewInt(10), big.NewInt(36), nil)

// whole tells a number as another arithmetic has it.
func whole(x uint64) *big.Int { return new(big.Int).SetUint64(x) }

// value tells a Nat by its value's definition.
func value(n api.Nat) *big.Int {
	z := new(big.Int)
	for _, limb := range slices.Backward(n) {
		z.Lsh(z, 64).Or(z, whole(limb))
	}
	return z
}

// natOf makes the normal Nat of a value.
func natOf(x *big.Int) api.Nat {
	var n api.Nat
	for rest := new(big.Int).Set(x); rest.Sign() > 0; rest.Rsh(rest, 64) {
		n = append(n, new(big.Int).And(rest, whole(top)).Uint64())
	}
	return n
}

// ratOf makes the Rat of a value, reduced as a big.Rat is.
func ratOf(x *big.Rat) api.Rat { return api.Rat{Num: natOf(x.Num()), Den: natOf(x.Denom())} }

// places tells the value of a Raw.
func places(raw *big.Int) *big.Rat { return new(big.Rat).SetFrac(raw, scale) }

// decValue tells a Dec by its value's definition.
func decValue(d api.Dec) *big.Rat { return places(value(d.Raw)) }

// fraction tells num / den.
func fraction(num, den int64) *big.Rat { return big.NewRat(num, den) }

// parsed reads a text that must be a Dec.
func parsed(t *testing.T, s string) api.Dec {
	t.Helper()
	d, e := dec.Parse(s)
	if e != api.OK {
		t.Fatalf("P2.4: Parse(%q): %v", s, e)
	}
	return d
}

// spelt tells the bytes of numbers, the highest byte first, behind some others.
func spelt(begin []byte, all ...uint64) []byte {
	b := slices.Clone(begin)
	for _, n := range all {
		b = binary.BigEndian.AppendUint64(b, n)
	}
	return b
}

// keyOf tells a key of a validator's, by the mark of its kind.
func keyOf(id uint64, mark byte, more ...uint64) []byte {
	return spelt(append(spelt([]byte("v"), id), mark), more...)
}

// tx tells the bytes of a transaction, with the numbers that its kind uses.
func tx(sender, seq, fee uint64, kind byte, uses ...uint64) []byte {
	return spelt(append(spelt([]byte{0x54}, sender, seq, fee), kind), uses...)
}

// fault tells the bytes of a fault.
func fault(kind byte, val, height uint64) []byte {
	return spelt([]byte{0x46, kind}, val, height)
}

// laid tells the bytes of a genesis.
func laid(g api.Genesis) []byte {
	p := g.Params
	b := spelt([]byte("GLN1"), p.Max, p.Unbond, p.Entries, p.Tax, p.Double, p.Down, p.Jail, p.Age, p.Fee, p.Keeper)
	b = binary.BigEndian.AppendUint32(b, uint32(len(g.Accounts)))
	for _, a := range g.Accounts {
		b = spelt(b, a.Id, a.Coins)
	}
	b = binary.BigEndian.AppendUint32(b, uint32(len(g.Vals)))
	for _, v := range g.Vals {
		b = spelt(b, v.Op, v.Rate, v.Tokens)
	}
	return b
}

// plain tells a genesis of six accounts, 16 to 21, with 1000 coins each: nobody pays a fee who doesn't want to, there is no tax, 21 keeps the pool.
func plain(vals ...api.Founder) api.Genesis {
	g := api.Genesis{Params: api.Params{Max: 3, Unbond: 20, Entries: 9, Double: 5000, Down: 1000, Age: 50, Keeper: 21}, Vals: vals}
	for id := uint64(16); id < 22; id++ {
		g.Accounts = append(g.Accounts, api.Purse{Id: id, Coins: 1000})
	}
	return g
}

// begun tells an audit that must begin so.
func begun(t *testing.T, g api.Genesis) *audit.Audit {
	t.Helper()
	a, e := audit.New(laid(g))
	if e != api.OK || a == nil {
		t.Fatalf("P25.1: New: %v, %v", a, e)
	}
	return a
}

// block does a block that must be done, each of its items, too, and tells what was audited.
func block(t *testing.T, a *audit.Audit, items ...[]byte) []api.Audited {
	t.Helper()
	report, all, e := a.Block(items)
	if e != api.OK || len(report.Replies) != len(items) {
		t.Fatalf("P25.2: Block: %v, %d replies", e, len(report.Replies))
	}
	for i, reply := range report.Replies {
		if reply.Err != api.OK {
			t.Fatalf("P25.2: item %d: %v", i, reply.Err)
		}
	}
	return all
}

// sameNat tells whether two Nats are the same, to the limb.
func sameNat(x, y api.Nat) bool { return slices.Equal(x, y) }

// sameDec tells whether two Decs are.
func sameDec(x, y api.Dec) bool { return sameNat(x.Raw, y.Raw) }

// sameRat tells whether two Rats are.
func sameRat(x, y api.Rat) bool { return sameNat(x.Num, y.Num) && sameNat(x.Den, y.Den) }

// sameAudited tells whether two payments were audited alike.
func sameAudited(x, y api.Audited) bool {
	return x.Val == y.Val && x.Del == y.Del && x.W == y.W && sameDec(x.Q, y.Q) && sameRat(x.E, y.E) && x.P == y.P && x.K == y.K && x.Fits == y.Fits
}

// samePaid tells whether two payments are the same, in all their fields.
func samePaid(x, y api.Paid) bool {
	return x.Val == y.Val && x.Del == y.Del && x.W == y.W && x.Tokens == y.Tokens && sameDec(x.Q, y.Q) && sameDec(x.Left, y.Left) && sameDec(x.Shares, y.Shares)
}

// sameReply tells whether two replies are, Ops included.
func sameReply(x, y api.Reply) bool {
	return x.Err == y.Err && x.N == y.N && x.Ops == y.Ops && sameDec(x.Shares, y.Shares) && slices.EqualFunc(x.Paid, y.Paid, samePaid)
}

// sameReport tells whether two reports are, Ops included.
func sameReport(x, y api.Report) bool {
	return x.Height == y.Height && x.Ops == y.Ops && slices.EqualFunc(x.Gave, y.Gave, samePaid) && slices.EqualFunc(x.Replies, y.Replies, sameReply) &&
		slices.Equal(x.Matured, y.Matured) && slices.Equal(x.Went, y.Went) && slices.Equal(x.Came, y.Came)
}

// samePair tells whether two entries of a store are.
func samePair(x, y api.Pair) bool {
	return bytes.Equal(x.Key, y.Key) && bytes.Equal(x.Value, y.Value)
}

// sameStore tells whether the same lies in two stores.
func sameStore(x, y *kv.Store) bool { return slices.EqualFunc(x.Dump(), y.Dump(), samePair) }

// wantErr fails unless a call has answered that error.
func wantErr(t *testing.T, what string, got, want api.Errno) {
	t.Helper()
	if got != want {
		t.Fatalf("%s: %v, not %v", what, got, want)
	}
}

// wantRat fails unless a Rat is reduced and of that value.
func wantRat(t *testing.T, what string, got api.Rat, want *big.Rat) {
	t.Helper()
	if !sameRat(got, ratOf(want)) {
		t.Fatalf("%s: %v, not %s", what, got, want)
	}
}

// wantAudited fails unless just that was audited, in this order.
func wantAudited(t *testing.T, what string, got []api.Audited, want ...api.Audited) {
	t.Helper()
	if !slices.EqualFunc(got, want, sameAudited) {
		t.Fatalf("%s: %v, not %v", what, got, want)
	}
}

// wantOwes fails unless that is owed to a validator's delegations, and covered.
func wantOwes(t *testing.T, what string, a *audit.Audit, val uint64, want *big.Rat) {
	t.Helper()
	got, covered := a.Owes(val)
	wantRat(t, what+": Owes", got, want)
	if !covered {
		t.Fatalf("%s: what is owed behind %d isn't covered", what, val)
	}
}
