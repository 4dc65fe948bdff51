package sound_test

import (
	"math/rand"
	"reflect"

	"glean/api"
	"glean/bank"
	"glean/dec"
	"glean/keys"
	"glean/kv"
	"glean/rec"
)

// spoil does something to a state that a rule may forbid.
func spoil(r *rand.Rand, s *kv.Store) {
	all := s.Dump()
	p := all[r.Intn(len(all))]
	if r.Intn(2) == 0 { // a kind first, so that those with few keys come as often
		p = drawnOfKind(r, all)
	}
	switch r.Intn(12) {
	case 0:
		s.Delete(p.Key)
	case 1:
		shift(r, s, p)
	case 2:
		if len(p.Value) > 0 {
			p.Value[r.Intn(len(p.Value))] ^= 1 << r.Intn(8)
			s.Set(p.Key, p.Value)
		}
	case 3:
		strew(r, s)
	case 4:
		bank.Mint(s, []uint64{1, 2, 3, 4, 16}[r.Intn(5)], 1)
	case 5:
		bank.Move(s, uint64(1+r.Intn(4)), uint64(1+r.Intn(4)), uint64(r.Intn(3)))
	case 6, 7:
		pass(r, s)
	default:
		if b := tweaked(r, p); b != nil {
			s.Set(p.Key, b)
		}
	}
}

// drawnOfKind draws an entry of a kind that is drawn first.
func drawnOfKind(r *rand.Rand, all []api.Pair) api.Pair {
	kinds := map[int][]api.Pair{}
	for _, p := range all {
		k, _ := keys.Read(p.Key)
		kinds[k.Kind] = append(kinds[k.Kind], p)
	}
	for {
		if of := kinds[1+r.Intn(17)]; len(of) > 0 {
			return of[r.Intn(len(of))]
		}
	}
}

// shift lays an entry beside its place, or twice.
func shift(r *rand.Rand, s *kv.Store, p api.Pair) {
	k, _ := keys.Read(p.Key)
	n := []*uint64{&k.A, &k.B}[r.Intn(2)]
	*n += uint64(r.Intn(5)) - 2
	if b, e := keys.Make(k); e == api.OK {
		s.Set(b, p.Value)
		if r.Intn(2) == 0 {
			s.Delete(p.Key)
		}
	}
}

// pass has something go from what is outstanding to the pool, or back, so that Shared's coins match still.
func pass(r *rand.Rand, s *kv.Store) {
	id := drawnVal(r, s)
	b, there := s.Get(at(api.KeyVal, id))
	v, e := rec.Val(b)
	poured, _ := s.Get(at(api.KeyPool))
	pool, _ := rec.Pool(poured)
	if !there || e != api.OK {
		return
	}
	n := []api.Dec{parsed(hair), parsed("0.5"), dec.Of(1), v.Outstanding, pool, v.Current}[r.Intn(6)]
	from, to := &v.Outstanding, &pool
	if r.Intn(2) == 0 {
		from, to = to, from
	}
	left, below := dec.Sub(*from, n)
	if below != api.OK {
		return
	}
	*from, *to = left, dec.Add(*to, n)
	s.Set(at(api.KeyVal, id), rec.PutVal(v))
	s.Set(at(api.KeyPool), rec.PutPool(pool))
	if dec.Zero(pool) {
		s.Delete(at(api.KeyPool))
	}
}

// tweaked tells an entry's value with a field that is changed a little, or to an edge; nil, if it has no fields.
func tweaked(r *rand.Rand, p api.Pair) []byte {
	k, _ := keys.Read(p.Key)
	switch k.Kind {
	case api.KeyParams:
		return reput(r, p.Value, rec.Params, rec.PutParams)
	case api.KeyChain:
		return reput(r, p.Value, rec.Chain, rec.PutChain)
	case api.KeyPool:
		return reput(r, p.Value, rec.Pool, rec.PutPool)
	case api.KeyAccount:
		return reput(r, p.Value, rec.Account, rec.PutAccount)
	case api.KeyVal:
		return reput(r, p.Value, rec.Val, rec.PutVal)
	case api.KeyDelegation:
		return reput(r, p.Value, rec.Delegation, rec.PutDelegation)
	case api.KeyHistory:
		return reput(r, p.Value, rec.History, rec.PutHistory)
	case api.KeyCut:
		return reput(r, p.Value, rec.Cut, rec.PutCut)
	case api.KeyUnbonding:
		return reput(r, p.Value, rec.Unbonding, rec.PutUnbonding)
	case api.KeyMove:
		return reput(r, p.Value, rec.Move, rec.PutMove)
	case api.KeyTomb, api.KeyDue, api.KeySource, api.KeyCount:
		return reput(r, p.Value, rec.Number, rec.PutNumber)
	}
	return nil
}

// reput lays a record anew with one field changed.
func reput[T any](r *rand.Rand, b []byte, read func([]byte) (T, api.Errno), put func(T) []byte) []byte {
	record, e := read(b)
	if e != api.OK {
		return nil
	}
	v := reflect.ValueOf(&record).Elem()
	if v.Kind() == reflect.Struct && v.Type() != reflect.TypeFor[api.Dec]() {
		v = v.Field(r.Intn(v.NumField()))
	}
	switch x := v.Addr().Interface().(type) {
	case *uint64:
		*x = near(r, *x)
	case *bool:
		*x = !*x
	case *api.Dec:
		*x = nearDec(r, *x)
	}
	return put(record)
}

// near draws a number beside another one, or at an edge.
func near(r *rand.Rand, n uint64) uint64 {
	edges := []uint64{n + 1, n - 1, n + 1, n - 1, 0, 1, 15, 16, 10000, 10001, supply, supply + 1, most, most + 1, top}
	return edges[r.Intn(len(edges))]
}

// nearDec draws a Dec beside another one, or at an edge.
func nearDec(r *rand.Rand, d api.Dec) api.Dec {
	step := []api.Dec{parsed(hair), dec.Of(1)}[r.Intn(2)]
	switch r.Intn(6) {
	case 0, 1:
		return dec.Add(d, step)
	case 2, 3:
		lower, _ := dec.Sub(d, step)
		return lower
	case 4:
		return dec.Mul(d, parsed("0.5"))
	}
	return []api.Dec{{}, tenTo(54), tenTo(60), dec.Add(tenTo(54), step), dec.Add(tenTo(60), step)}[r.Intn(5)]
}

// strew lays something new: a key of any kind with small numbers, with a record of its kind.
func strew(r *rand.Rand, s *kv.Store) {
	few := func() uint64 { return []uint64{0, 1, 2, 3, 15, 16, 17, 18, 19, 20, top}[r.Intn(11)] }
	part := func() api.Dec { return nearDec(r, dec.Of(few()%30)) }
	k := api.Key{Kind: 4 + r.Intn(14), A: few(), B: few()}
	if r.Intn(3) == 0 {
		k.Kind = api.KeyAccount
	}
	b, e := keys.Make(k)
	if e != api.OK {
		k.B = 0
		b, _ = keys.Make(k)
	}
	s.Set(b, map[int][]byte{
		api.KeyAccount:    rec.PutAccount(api.Account{Coins: few() % 100, Seq: few()}),
		api.KeyVal:        rec.PutVal(api.Validator{Tokens: few(), Shares: part(), Jailed: r.Intn(2) == 0, Bonded: r.Intn(2) == 0, Period: few(), Outstanding: part()}),
		api.KeyDelegation: rec.PutDelegation(api.Delegation{Shares: part(), Period: few(), Stake: part()}),
		api.KeyHistory:    rec.PutHistory(api.History{Ratio: part(), Refs: few()}),
		api.KeyCut:        rec.PutCut(api.Cut{Before: few(), After: few()}),
		api.KeyTomb:       rec.PutNumber(few()),
		api.KeyUnbonding:  rec.PutUnbonding(api.Unbonding{Del: few(), Val: few(), Height: few(), Due: few(), Initial: few(), Balance: few()}),
		api.KeyMove:       rec.PutMove(api.Move{Del: few(), Src: few(), Dst: few(), Height: few(), Due: few(), Initial: few(), Shares: part()}),
		api.KeyDue:        rec.PutNumber(12 + few()%2),
		api.KeySource:     rec.PutNumber(12 + few()%2),
		api.KeyCount:      rec.PutNumber(few()),
	}[k.Kind])
}
