package whole_test

import (
	"math/rand"
	"reflect"
	"testing"

	"glean/api"
	"glean/app"
	"glean/bank"
	"glean/dec"
	"glean/dist"
	"glean/dump"
	"glean/keys"
	"glean/kv"
	"glean/rec"
	"glean/sound"
	"glean/stake"
)

// P30.6: behind each block a run's state goes there and back, and an engine over it does all later blocks alike.
func TestDumps(t *testing.T) {
	r := rand.New(rand.NewSource(3006))
	for range 20 {
		x := drawnRun(t, r, 25)
		var others []*app.Engine
		through(t, x, func(height int, e *app.Engine, report api.Report) {
			for _, other := range others {
				wantReport(t, "P30.6: later on", do(t, other, x.blocks[height-1]), report)
				wantStore(t, "P30.6: later on", other.Store(), e.Store())
			}
			others = append(others, over(t, again(t, e.Store())))
		})
	}
}

// reput tells a record's bytes with one field that is changed a little, or to an edge; nil, if they are none.
func reput[T any](r *rand.Rand, b []byte, read func([]byte) (T, api.Errno), put func(T) []byte) []byte {
	record, e := read(b)
	if e != api.OK {
		return nil
	}
	v := reflect.ValueOf(&record).Elem()
	if v.Kind() == reflect.Struct && v.Type() != reflect.TypeFor[api.Dec]() {
		v = v.Field(r.Intn(v.NumField()))
	}
	switch x := v.Addr().Interface().(type) {
	case *uint64:
		*x = drawnOf(r, *x+1, *x-1, *x/2, *x*2, *x+uint64(r.Intn(1000)), 0, 1, 2, 16, 10000, api.MaxSupply, api.MaxCount, top)
	case *bool:
		*x = !*x
	case *api.Dec:
		lower, _ := dec.Sub(*x, api.Dec{Raw: api.Nat{1 << r.Intn(64)}})
		*x = []api.Dec{dec.Add(*x, api.Dec{Raw: api.Nat{1 << r.Intn(64), uint64(r.Intn(2)), uint64(r.Intn(2))}}), lower, dec.Mul(*x, dec.Basis(uint64(r.Intn(10001)))), {}, dec.Times(*x, drawnOf(r, 2, 1000, 1<<60))}[r.Intn(5)]
	}
	return put(record)
}

// tweaked tells an entry's value with a field that is changed; nil, if it has none.
func tweaked(r *rand.Rand, k api.Key, b []byte) []byte {
	switch k.Kind {
	case api.KeyParams:
		return reput(r, b, rec.Params, rec.PutParams)
	case api.KeyChain:
		return reput(r, b, rec.Chain, rec.PutChain)
	case api.KeyAccount:
		return reput(r, b, rec.Account, rec.PutAccount)
	case api.KeyVal:
		return reput(r, b, rec.Val, rec.PutVal)
	case api.KeyDelegation:
		return reput(r, b, rec.Delegation, rec.PutDelegation)
	case api.KeyHistory:
		return reput(r, b, rec.History, rec.PutHistory)
	case api.KeyCut:
		return reput(r, b, rec.Cut, rec.PutCut)
	case api.KeyTomb:
		return reput(r, b, rec.Number, rec.PutNumber)
	case api.KeyUnbonding:
		return reput(r, b, rec.Unbonding, rec.PutUnbonding)
	case api.KeyMove:
		return reput(r, b, rec.Move, rec.PutMove)
	}
	return nil
}

// pour has new coins lie with Shared, for the pool or for a validator.
func pour(r *rand.Rand, s *kv.Store) {
	id, n := drawnUser(r), uint64(r.Int63n(1<<(1+r.Intn(50))))
	bank.Mint(s, api.Shared, n)
	v, there := dist.Val(s, id)
	if !there {
		dist.Pour(s, dec.Of(n))
		return
	}
	v.Outstanding = dec.Add(v.Outstanding, dec.Of(n))
	switch r.Intn(3) {
	case 0:
		v.Current = dec.Add(v.Current, dec.Of(n))
	case 1:
		v.Commission = dec.Add(v.Commission, dec.Of(n))
	}
	dist.SetVal(s, id, v)
}

// strange does drawn things to a sound store, those alone that leave it sound: a state as somebody may hand it in, which no run has.
func strange(r *rand.Rand, s *kv.Store) *kv.Store {
	for range 60 {
		x := s.Copy()
		if r.Intn(5) == 0 {
			pour(r, x)
		} else {
			all := x.Dump()
			p := all[r.Intn(len(all))]
			k, _ := keys.Read(p.Key)
			if b := tweaked(r, k, p.Value); b != nil {
				x.Set(p.Key, b)
			}
		}
		if sound.Check(x) == 0 {
			s = x
		}
	}
	return s
}

// P30.6: what Import takes is sound, whatever it is; of an engine over it P30.3 and P30.7 to P30.9 hold.
func TestStrangeDumps(t *testing.T) {
	r := rand.New(rand.NewSource(3007))
	engines := 0
	for range 60 {
		e := begun(t, laid(drawnGenesis(r)))
		for range 15 {
			do(t, e, drawnItems(r, e.Store()))
		}
		b, err := dump.Export(strange(r, e.Store()))
		must(t, b, err)
		s, err := dump.Import(b)
		if err != api.OK || sound.Check(s) != 0 {
			t.Fatalf("P30.6: Import of what is sound: %v", err)
		}
		e, err = app.New(s)
		if err != api.OK {
			continue
		}
		engines++
		all := coinsOf(stateOf(t, s))
		for range 15 {
			workOn(t, e, drawnItems(r, e.Store()))
			x := stateOf(t, e.Store())
			wantCoins(t, x, all)
			wantHistories(t, x)
			wantEnded(t, x)
			again(t, e.Store())
		}
	}
	if engines < 40 {
		t.Errorf("P30.6: only %d engines", engines)
	}
}

// P30.6: bytes of which one is another one are taken if they are sound, and those alone.
func TestDumpsWithAnotherByte(t *testing.T) {
	r := rand.New(rand.NewSource(3008))
	taken := 0
	for range 20 {
		e := begun(t, laid(drawnGenesis(r)))
		for range 15 {
			do(t, e, drawnItems(r, e.Store()))
		}
		b, err := dump.Export(e.Store())
		must(t, b, err)
		for range 100 {
			other := append([]byte(nil), b...)
			other[r.Intn(len(b))] ^= 1 << r.Intn(8)
			s, err := dump.Import(other)
			if (err == api.OK) != (s != nil) || err == api.OK && sound.Check(s) != 0 {
				t.Fatalf("P30.6: Import of another byte: %v", err)
			}
			if err != api.OK {
				continue
			}
			taken++
			if e, err := app.New(s); err == api.OK {
				all := coinsOf(stateOf(t, s))
				workOn(t, e, drawnItems(r, s))
				wantCoins(t, stateOf(t, e.Store()), all)
			} else if stake.Chain(s).Height < api.MaxCount && stake.Chain(s).Next < api.MaxCount && err != api.ErrAppStore {
				t.Fatalf("P20.1: New: %v", err)
			}
		}
	}
	if taken < 40 {
		t.Errorf("P30.6: only %d were taken", taken)
	}
}
