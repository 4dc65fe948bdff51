package ante_test

import (
	"encoding/binary"
	"maps"
	"math/big"
	"math/rand"
	"testing"

	"glean/ante"
	"glean/api"
	"glean/bank"
	"glean/kv"
	"glean/slash"
	"glean/stake"
)

const (
	top       = ^uint64(0)
	supply    = 1_000_000_000_000_000_000
	collector = 1 // as the document numbers it
)

// state: a store's entries, value by key. It is read and changed by none of the project's calls.
type state map[string]string

// stateOf tells what lies in a store.
func stateOf(s *kv.Store) state {
	all := state{}
	for _, p := range s.Dump() {
		all[string(p.Key)] = string(p.Value)
	}
	return all
}

// accountKey tells where an account lies.
func accountKey(id uint64) string {
	return "a" + string(binary.BigEndian.AppendUint64(nil, id))
}

// number tells the at-th number of a value; 0, if nothing lies there.
func number(value string, at int) uint64 {
	if value == "" {
		return 0
	}
	return binary.BigEndian.Uint64([]byte(value)[8*at:])
}

// fee tells what the params ask for: the ninth of their numbers.
func (w state) fee() uint64 { return number(w["p"], 8) }

// purse tells an account.
func (w state) purse(id uint64) api.Account {
	value := w[accountKey(id)]
	return api.Account{Coins: number(value, 0), Seq: number(value, 1)}
}

// put lays an account; of one that is zero nothing lies there.
func (w state) put(id uint64, a api.Account) {
	b := binary.BigEndian.AppendUint64(nil, a.Coins)
	w[accountKey(id)] = string(binary.BigEndian.AppendUint64(b, a.Seq))
	if a == (api.Account{}) {
		delete(w, accountKey(id))
	}
}

// admit does what the chapter says of a transaction.
func (w state) admit(t api.Tx) api.Errno {
	from, to := w.purse(t.Sender), w.purse(collector)
	together := new(big.Int).Add(new(big.Int).SetUint64(to.Coins), new(big.Int).SetUint64(t.Fee))
	switch {
	case t.Sender < 16:
		return 180
	case t.Fee < w.fee():
		return 181
	case t.Fee > from.Coins:
		return 182
	case t.Seq != from.Seq:
		return 183
	case together.Cmp(big.NewInt(supply)) > 0:
		return 91
	}
	w.put(t.Sender, api.Account{Coins: from.Coins - t.Fee, Seq: from.Seq + 1})
	w.put(collector, api.Account{Coins: to.Coins + t.Fee, Seq: to.Seq})
	return 0
}

// coins tells the coins of all accounts.
func (w state) coins() *big.Int {
	all := new(big.Int)
	for k, v := range w {
		if k[0] == 'a' {
			all.Add(all, new(big.Int).SetUint64(number(v, 0)))
		}
	}
	return all
}

// lay lays an account into a store, whatever its sequence is.
func lay(s *kv.Store, id uint64, a api.Account) {
	w := state{}
	w.put(id, a)
	s.Delete([]byte(accountKey(id)))
	for k, v := range w {
		s.Set([]byte(k), []byte(v))
	}
}

// wantState fails unless that lies in a store, and nothing else.
func wantState(t *testing.T, what string, s *kv.Store, want state) {
	t.Helper()
	if got := stateOf(s); !maps.Equal(got, want) {
		t.Fatalf("%s: there lies %x, not %x", what, got, want)
	}
}

// wantAdmit fails unless a transaction is answered as the chapter says, and the store is as it says behind it; it tells the answer.
func wantAdmit(t *testing.T, s *kv.Store, x api.Tx) api.Errno {
	t.Helper()
	was := stateOf(s)
	now := maps.Clone(was)
	want := now.admit(x)
	got := ante.Admit(s, x)
	if got != want {
		t.Fatalf("P18.1: Admit(%+v), the fee being %d, the sender %+v: %v, not %v", x, was.fee(), was.purse(x.Sender), got, want)
	}
	wantState(t, "P18.1: behind Admit", s, now)
	return got
}

// wantErr fails unless Admit answers that, by hand and by the model.
func wantErr(t *testing.T, s *kv.Store, sender, seq, fee uint64, want api.Errno) {
	t.Helper()
	if got := wantAdmit(t, s, api.Tx{Sender: sender, Seq: seq, Fee: fee}); got != want {
		t.Fatalf("P18.1: Admit{%d, %d, %d}: %v, not %v", sender, seq, fee, got, want)
	}
}

// begun tells a store with a fee and some accounts.
func begun(fee uint64, purses map[uint64]api.Account) *kv.Store {
	s := kv.New()
	stake.SetParams(s, api.Params{Max: 2, Unbond: 5, Entries: 2, Fee: fee})
	for id, a := range purses {
		lay(s, id, a)
	}
	return s
}

// worked tells a store in which something of each kind lies.
func worked(t *testing.T) *kv.Store {
	t.Helper()
	s := begun(3, nil)
	for id := uint64(16); id < 22; id++ {
		bank.Mint(s, id, 1000)
	}
	stake.SetParams(s, api.Params{Max: 2, Unbond: 5, Entries: 4, Tax: 100, Double: 500, Down: 100, Jail: 3, Age: 9, Fee: 3, Keeper: 16})
	stake.SetChain(s, api.Chain{Height: 3, Next: 1})
	for op := uint64(16); op < 19; op++ {
		stake.Create(s, op, 500, 100*op-1500)
	}
	stake.Delegate(s, 16, 20, 50)
	stake.Delegate(s, 17, 20, 60)
	stake.Elect(s)
	stake.Undelegate(s, 16, 20, 9)
	stake.Redelegate(s, 17, 18, 20, 8)
	slash.Fault(s, api.FaultDown, 17, 3)
	slash.Fault(s, api.FaultDouble, 18, 3)
	stake.Elect(s)
	first := map[byte]bool{}
	for _, p := range s.Dump() {
		first[p.Key[0]] = true
	}
	for _, c := range []byte("pcmavtiburqenk") {
		if !first[c] {
			t.Fatalf("the test's own store has no key of %c", c)
		}
	}
	return s
}

// drawn draws a transaction that is often admitted.
func drawn(r *rand.Rand, w state) api.Tx {
	x := api.Tx{Sender: 16 + uint64(r.Intn(6)), Msg: api.Msg{Kind: r.Intn(12), A: uint64(r.Intn(20)), N: r.Uint64()}}
	if r.Intn(8) == 0 {
		x.Sender = uint64(r.Intn(17))
	}
	a := w.purse(x.Sender)
	x.Seq, x.Fee = a.Seq, w.fee()+uint64(r.Intn(4))
	if r.Intn(5) == 0 {
		x.Seq += uint64(r.Intn(3)) - 1
	}
	switch r.Intn(8) {
	case 0:
		x.Fee = a.Coins + uint64(r.Intn(3)) - 1
	case 1:
		x.Fee = w.fee() - uint64(r.Intn(2))
	case 2:
		x.Fee = r.Uint64() >> r.Intn(64)
	}
	return x
}
