// What DOC.md promises of the whole, P30.1 to P30.15, is asked of runs here: each a beginning as raw bytes, and blocks of raw items.

package whole_test

import (
	"bytes"
	"encoding/binary"
	"math/big"
	"slices"
	"testing"

	"glean/api"
	"glean/app"
	"glean/dump"
	"glean/genesis"
	"glean/keys"
	"glean/kv"
	"glean/rec"
)

const top = ^uint64(0)

// The kinds of messages and faults, as the document numbers them.
const (
	send = iota + 1
	create
	delegate
	undelegate
	redelegate
	withdraw
	commission
	unjail
	fund
	spend
)

const (
	double = iota + 1
	down
)

// spelt tells the bytes of numbers, the highest byte first, behind some others.
func spelt(begin []byte, all ...uint64) []byte {
	b := slices.Clone(begin)
	for _, n := range all {
		b = binary.BigEndian.AppendUint64(b, n)
	}
	return b
}

// tx tells the bytes of a transaction, with the numbers that its kind uses.
func tx(sender, seq, fee uint64, kind byte, uses ...uint64) []byte {
	return spelt(append(spelt([]byte{0x54}, sender, seq, fee), kind), uses...)
}

// fault tells the bytes of a fault.
func fault(kind byte, val, height uint64) []byte {
	return spelt([]byte{0x46, kind}, val, height)
}

// laid tells the bytes of a genesis.
func laid(g api.Genesis) []byte {
	p := g.Params
	b := spelt([]byte("GLN1"), p.Max, p.Unbond, p.Entries, p.Tax, p.Double, p.Down, p.Jail, p.Age, p.Fee, p.Keeper)
	b = binary.BigEndian.AppendUint32(b, uint32(len(g.Accounts)))
	for _, a := range g.Accounts {
		b = spelt(b, a.Id, a.Coins)
	}
	b = binary.BigEndian.AppendUint32(b, uint32(len(g.Vals)))
	for _, v := range g.Vals {
		b = spelt(b, v.Op, v.Rate, v.Tokens)
	}
	return b
}

// scale: what a Raw is divided by.
var scale = new(big.Int).Exp(big.NewInt(10), big.NewInt(36), nil)

// raw tells a Dec's Raw as another arithmetic has it.
func raw(d api.Dec) *big.Int {
	z := new(big.Int)
	for _, limb := range slices.Backward(d.Raw) {
		z.Lsh(z, 64).Or(z, new(big.Int).SetUint64(limb))
	}
	return z
}

// scaled tells what a Dec's Raw is that has this number of coins.
func scaled(coins *big.Int) *big.Int { return new(big.Int).Mul(coins, scale) }

// begun tells an engine at the beginning of a chain that must begin.
func begun(t *testing.T, begin []byte) *app.Engine {
	t.Helper()
	s, e := genesis.Make(begin)
	if e != api.OK {
		t.Fatalf("P21.3: Make: %v", e)
	}
	return over(t, s)
}

// over tells an engine over a store that must be taken.
func over(t *testing.T, s *kv.Store) *app.Engine {
	t.Helper()
	e, err := app.New(s)
	if err != api.OK {
		t.Fatalf("P20.1: New: %v", err)
	}
	return e
}

// do has an engine do a block, which must have no more items than it may.
func do(t *testing.T, e *app.Engine, items [][]byte) api.Report {
	t.Helper()
	report, err := e.Block(items)
	if err != api.OK {
		t.Fatalf("P20.4: Block: %v", err)
	}
	return report
}

// again tells a store that was brought to bytes and back.
func again(t *testing.T, s *kv.Store) *kv.Store {
	t.Helper()
	b, e := dump.Export(s)
	if e != api.OK {
		t.Fatalf("P30.6: Export: %v", e)
	}
	other, e := dump.Import(b)
	if e != api.OK {
		t.Fatalf("P30.6: Import: %v, rule %d", e, dump.Rule(b))
	}
	if back, e := dump.Export(other); e != api.OK || !bytes.Equal(back, b) {
		t.Fatalf("P30.6: Export of what was taken: %v", e)
	}
	return other
}

// sameDec tells whether two Decs are the same, to the limb.
func sameDec(x, y api.Dec) bool { return slices.Equal(x.Raw, y.Raw) }

// samePaid tells whether two payments are the same, in all their fields.
func samePaid(x, y api.Paid) bool {
	return x.Val == y.Val && x.Del == y.Del && x.W == y.W && x.Tokens == y.Tokens && sameDec(x.Q, y.Q) && sameDec(x.Left, y.Left) && sameDec(x.Shares, y.Shares)
}

// sameReply tells whether two replies are, but for Ops.
func sameReply(x, y api.Reply) bool {
	return x.Err == y.Err && x.N == y.N && sameDec(x.Shares, y.Shares) && slices.EqualFunc(x.Paid, y.Paid, samePaid)
}

// sameReport tells whether two reports are, but for Ops.
func sameReport(x, y api.Report) bool {
	return x.Height == y.Height && slices.EqualFunc(x.Gave, y.Gave, samePaid) && slices.EqualFunc(x.Replies, y.Replies, sameReply) &&
		slices.Equal(x.Matured, y.Matured) && slices.Equal(x.Went, y.Went) && slices.Equal(x.Came, y.Came)
}

// samePair tells whether two entries of a store are.
func samePair(x, y api.Pair) bool {
	return bytes.Equal(x.Key, y.Key) && bytes.Equal(x.Value, y.Value)
}

// sameStore tells whether the same lies in two stores.
func sameStore(x, y *kv.Store) bool { return slices.EqualFunc(x.Dump(), y.Dump(), samePair) }

// wantReport fails unless two reports are the same, but for Ops.
func wantReport(t *testing.T, what string, got, want api.Report) {
	t.Helper()
	if !sameReport(got, want) {
		t.Fatalf("%s: %+v, not %+v", what, got, want)
	}
}

// wantStore fails unless the same lies in two stores.
func wantStore(t *testing.T, what string, got, want *kv.Store) {
	t.Helper()
	if !sameStore(got, want) {
		t.Fatalf("%s: another store: %x, not %x", what, got.Dump(), want.Dump())
	}
}

// state: what lies in a store, read entry by entry.
type state struct {
	params      api.Params
	chain       api.Chain
	pool        api.Dec
	accounts    map[uint64]api.Account
	vals        map[uint64]api.Validator
	delegations map[api.Key]api.Delegation
	histories   map[api.Key]api.History
	cuts        map[api.Key]api.Cut
	unbondings  map[uint64]api.Unbonding
	moves       map[uint64]api.Move
	all         []api.Key
}

// must tells a record that must have been read.
func must[T any](t *testing.T, x T, e api.Errno) T {
	t.Helper()
	if e != api.OK {
		t.Fatalf("%v", e)
	}
	return x
}

// stateOf reads a store.
func stateOf(t *testing.T, s *kv.Store) state {
	t.Helper()
	x := state{
		accounts: map[uint64]api.Account{}, vals: map[uint64]api.Validator{}, delegations: map[api.Key]api.Delegation{}, histories: map[api.Key]api.History{},
		cuts: map[api.Key]api.Cut{}, unbondings: map[uint64]api.Unbonding{}, moves: map[uint64]api.Move{},
	}
	for _, p := range s.Dump() {
		k, e := keys.Read(p.Key)
		must(t, k, e)
		x.all = append(x.all, k)
		x.read(t, k, p.Value)
	}
	return x
}

// read reads an entry.
func (x *state) read(t *testing.T, k api.Key, b []byte) {
	var e api.Errno
	switch k.Kind {
	case api.KeyParams:
		x.params, e = rec.Params(b)
	case api.KeyChain:
		x.chain, e = rec.Chain(b)
	case api.KeyPool:
		x.pool, e = rec.Pool(b)
	case api.KeyAccount:
		x.accounts[k.A], e = rec.Account(b)
	case api.KeyVal:
		x.vals[k.A], e = rec.Val(b)
	case api.KeyDelegation:
		x.delegations[k], e = rec.Delegation(b)
	case api.KeyHistory:
		x.histories[k], e = rec.History(b)
	case api.KeyCut:
		x.cuts[k], e = rec.Cut(b)
	case api.KeyUnbonding:
		x.unbondings[k.A], e = rec.Unbonding(b)
	case api.KeyMove:
		x.moves[k.A], e = rec.Move(b)
	}
	must(t, k, e)
}

// bonded tells how many validators are bonded.
func (x *state) bonded() int {
	n := 0
	for _, v := range x.vals {
		if v.Bonded {
			n++
		}
	}
	return n
}

// cutsBehind tells how many cuts of a validator come behind a period.
func (x *state) cutsBehind(val, period uint64) int {
	n := 0
	for k := range x.cuts {
		if k.A == val && k.B > period {
			n++
		}
	}
	return n
}
