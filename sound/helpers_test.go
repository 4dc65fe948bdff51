package sound_test

import (
	"math/big"
	"math/rand"
	"slices"
	"testing"

	"glean/api"
	"glean/bank"
	"glean/dec"
	"glean/dist"
	"glean/keys"
	"glean/kv"
	"glean/rec"
	"glean/slash"
	"glean/sound"
	"glean/stake"
)

const (
	top    = ^uint64(0)
	supply = 1_000_000_000_000_000_000
	hair   = "0.000000000000000000000000000000000001"
	// The most that heights, numbers and periods of a state may be.
	most = 1 << 63
)

// whole tells a number as another arithmetic has it.
func whole(x uint64) *big.Int { return new(big.Int).SetUint64(x) }

// decOf makes the normal Dec of a Raw's value.
func decOf(x *big.Int) api.Dec {
	var d api.Dec
	for rest := new(big.Int).Set(x); rest.Sign() > 0; rest.Rsh(rest, 64) {
		d.Raw = append(d.Raw, new(big.Int).And(rest, whole(top)).Uint64())
	}
	return d
}

// tenTo tells 10^n as a Dec, reckoned by none of the project's calls.
func tenTo(n int64) api.Dec {
	return decOf(new(big.Int).Exp(big.NewInt(10), big.NewInt(n+36), nil))
}

// parsed reads a text that must be a Dec.
func parsed(s string) api.Dec {
	d, e := dec.Parse(s)
	if e != api.OK {
		panic("no Dec: " + s)
	}
	return d
}

// less tells a - b, b being the lesser one.
func less(a, b api.Dec) api.Dec {
	d, e := dec.Sub(a, b)
	if e != api.OK {
		panic("below 0")
	}
	return d
}

// at tells a key's bytes.
func at(kind int, numbers ...uint64) []byte {
	k := api.Key{Kind: kind}
	for i, n := range numbers {
		*[]*uint64{&k.A, &k.B}[i] = n
	}
	b, e := keys.Make(k)
	if e != api.OK {
		panic("no key")
	}
	return b
}

// changed lays the record that lies under a key as it is when it was changed so.
func changed[T any](s *kv.Store, key []byte, read func([]byte) (T, api.Errno), put func(T) []byte, how func(*T)) {
	b, _ := s.Get(key)
	record, e := read(b)
	if e != api.OK {
		panic("no record there")
	}
	how(&record)
	s.Set(key, put(record))
}

func changeParams(s *kv.Store, how func(*api.Params)) {
	changed(s, at(api.KeyParams), rec.Params, rec.PutParams, how)
}

func changeChain(s *kv.Store, how func(*api.Chain)) {
	changed(s, at(api.KeyChain), rec.Chain, rec.PutChain, how)
}

func changeVal(s *kv.Store, id uint64, how func(*api.Validator)) {
	changed(s, at(api.KeyVal, id), rec.Val, rec.PutVal, how)
}

func changeDelegation(s *kv.Store, val, del uint64, how func(*api.Delegation)) {
	changed(s, at(api.KeyDelegation, val, del), rec.Delegation, rec.PutDelegation, how)
}

func changeHistory(s *kv.Store, val, period uint64, how func(*api.History)) {
	changed(s, at(api.KeyHistory, val, period), rec.History, rec.PutHistory, how)
}

func changeCut(s *kv.Store, val, period uint64, how func(*api.Cut)) {
	changed(s, at(api.KeyCut, val, period), rec.Cut, rec.PutCut, how)
}

func changeUnbonding(s *kv.Store, id uint64, how func(*api.Unbonding)) {
	changed(s, at(api.KeyUnbonding, id), rec.Unbonding, rec.PutUnbonding, how)
}

func changeMove(s *kv.Store, id uint64, how func(*api.Move)) {
	changed(s, at(api.KeyMove, id), rec.Move, rec.PutMove, how)
}

// layAccount lays an account.
func layAccount(s *kv.Store, id uint64, a api.Account) {
	s.Set(at(api.KeyAccount, id), rec.PutAccount(a))
}

// moveEntry lays under another key what lies under one.
func moveEntry(s *kv.Store, from, to []byte) {
	b, there := s.Get(from)
	if !there {
		panic("nothing lies there")
	}
	s.Delete(from)
	s.Set(to, b)
}

// fit: params that may be.
func fit() api.Params {
	return api.Params{Max: 2, Unbond: 9, Entries: 3, Tax: 100, Double: 500, Down: 1000, Jail: 4, Age: 50, Fee: 1, Keeper: 16}
}

// fees has an account pay fees, which are shared out.
func fees(s *kv.Store, from, n uint64) {
	bank.Move(s, from, api.Collector, n)
	dist.Allocate(s)
}

// plain tells a state at height 5 with one validator, 16, alone with 10 tokens: its period is 2, its history that of 1.
func plain() *kv.Store {
	s := kv.New()
	stake.SetParams(s, fit())
	stake.SetChain(s, api.Chain{Height: 5, Next: 1})
	bank.Mint(s, 16, 1000)
	stake.Create(s, 16, 500, 10)
	stake.Elect(s)
	return s
}

// grown tells a state at height 5 in which something of each kind lies. Of its validators 16 (period 8, with the delegators 16, 20, 21) and 18 are bonded; 17 (period 5, with 17 and 21) was cut from 230 to 207 in period 4, and is jailed; 19 has a tomb. Unbondings 1 and 3 are of 20 from 16, move 2 of 21 from 17 to 16; all are due at 14.
func grown() *kv.Store {
	s := kv.New()
	stake.SetParams(s, fit())
	stake.SetChain(s, api.Chain{Height: 5, Next: 1})
	for id := uint64(16); id < 24; id++ {
		bank.Mint(s, id, 1000)
	}
	for op, n := range []uint64{300, 200, 150, 100} {
		stake.Create(s, 16+uint64(op), 500*uint64(op), n)
	}
	stake.Delegate(s, 16, 20, 100)
	stake.Delegate(s, 17, 21, 50)
	stake.Elect(s)
	fees(s, 22, 77)
	stake.Undelegate(s, 16, 20, 30)
	stake.Redelegate(s, 17, 16, 21, 20)
	stake.Undelegate(s, 16, 20, 7)
	slash.Fault(s, api.FaultDown, 17, 5)
	slash.Fault(s, api.FaultDouble, 19, 5)
	stake.Elect(s)
	fees(s, 22, 10)
	dist.Withdraw(s, 16, 16)
	return s
}

// fault: what is done to a state, and the rule that it breaks; 0: none.
type fault struct {
	rule int
	what string
	how  func(*kv.Store)
}

// wantRules fails unless each of these faults, done to a state that begins so, breaks its rule first.
func wantRules(t *testing.T, begin func() *kv.Store, faults []fault) {
	t.Helper()
	for _, f := range faults {
		s := begin()
		f.how(s)
		wantRule(t, f.what, s, f.rule)
	}
}

// wantRule fails unless Check answers that, and the model does.
func wantRule(t *testing.T, what string, s *kv.Store, want int) {
	t.Helper()
	if got := sound.Check(s); got != want {
		t.Errorf("P19.2: %s: rule %d, not %d", what, got, want)
	}
	if got := brokenRule(s.Dump()); got != want {
		t.Errorf("the model, of %s: rule %d, not %d", what, got, want)
	}
}

// someone draws who takes part in drawn runs.
func someone(r *rand.Rand) uint64 {
	all := []uint64{16, 17, 18, 19, 20, 255, 256, top}
	return all[r.Intn(len(all))]
}

// drawnParams draws params that may be.
func drawnParams(r *rand.Rand) api.Params {
	parts := func() uint64 { return []uint64{0, 1, 777, 2500, 5000, 10000}[r.Intn(6)] }
	return api.Params{
		Max: []uint64{1, 2, 3, 64}[r.Intn(4)], Unbond: []uint64{1, 3, 9, 100000}[r.Intn(4)], Entries: []uint64{1, 3, 16}[r.Intn(3)],
		Tax: parts(), Double: parts(), Down: parts(), Jail: uint64(r.Intn(3)), Age: uint64(r.Intn(9)), Fee: uint64(r.Intn(3)), Keeper: 16,
	}
}

// drawnRun begins a run; nothing is bound yet.
func drawnRun(r *rand.Rand) *kv.Store {
	s := kv.New()
	stake.SetParams(s, drawnParams(r))
	stake.SetChain(s, api.Chain{Next: 1})
	for range 12 {
		bank.Mint(s, someone(r), uint64(r.Int63n(1<<(1+r.Intn(55)))))
	}
	return s
}

// drawnBlock does a block of drawn things, as an engine would.
func drawnBlock(r *rand.Rand, s *kv.Store) {
	c := stake.Chain(s)
	stake.SetChain(s, api.Chain{Height: c.Height + 1, Next: c.Next})
	dist.Allocate(s)
	for range r.Intn(8) {
		drawnStep(r, s)
	}
	stake.Mature(s)
	stake.Elect(s)
}

// drawnStep does one drawn thing; it may be refused.
func drawnStep(r *rand.Rand, s *kv.Store) {
	val, other, del := drawnVal(r, s), drawnVal(r, s), someone(r)
	n := uint64(r.Int63n(1 << (1 + r.Intn(30))))
	now := stake.Chain(s).Height
	switch r.Intn(14) {
	case 0, 1:
		stake.Create(s, del, uint64(r.Intn(5))*2500, n)
	case 2, 3:
		stake.Delegate(s, val, del, n)
	case 4, 5:
		stake.Undelegate(s, val, del, uint64(r.Intn(2))*(n%1000))
	case 6, 7:
		stake.Redelegate(s, val, other, del, uint64(r.Intn(2))*(n%1000))
	case 8, 9:
		bank.Move(s, del, api.Collector, n%100000)
	case 10:
		dist.Withdraw(s, val, del)
	case 11:
		dist.Commission(s, val)
	case 12:
		slash.Fault(s, []int{api.FaultDown, api.FaultDown, api.FaultDown, api.FaultDouble}[r.Intn(4)], val, now-min(now, uint64(r.Intn(3))))
	case 13:
		slash.Unjail(s, val)
	}
}

// drawnVal draws a validator, if there is one.
func drawnVal(r *rand.Rand, s *kv.Store) uint64 {
	var all []uint64
	for b := range s.Prefix([]byte{'v'}) {
		if k, _ := keys.Read(b); k.Kind == api.KeyVal {
			all = append(all, k.A)
		}
	}
	if len(all) == 0 {
		return someone(r)
	}
	return all[r.Intn(len(all))]
}

// kindsIn tells which kinds of keys a store has, rising.
func kindsIn(s *kv.Store) []int {
	var all []int
	for _, p := range s.Dump() {
		k, _ := keys.Read(p.Key)
		all = append(all, k.Kind)
	}
	slices.Sort(all)
	return slices.Compact(all)
}
