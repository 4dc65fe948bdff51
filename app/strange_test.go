package app_test

import (
	"math/big"
	"math/rand"
	"reflect"
	"slices"
	"testing"

	"glean/api"
	"glean/app"
	"glean/bank"
	"glean/dec"
	"glean/dist"
	"glean/keys"
	"glean/kv"
	"glean/power"
	"glean/rec"
	"glean/sound"
	"glean/stake"
)

// reput tells a record's bytes with one field that is changed a little, or to an edge; nil, if they are none.
func reput[T any](r *rand.Rand, b []byte, read func([]byte) (T, api.Errno), put func(T) []byte) []byte {
	record, e := read(b)
	if e != api.OK {
		return nil
	}
	v := reflect.ValueOf(&record).Elem()
	if v.Kind() == reflect.Struct && v.Type() != reflect.TypeFor[api.Dec]() {
		v = v.Field(r.Intn(v.NumField()))
	}
	switch x := v.Addr().Interface().(type) {
	case *uint64:
		*x = drawnOf(r, *x+1, *x-1, *x/2, *x*2, *x+uint64(r.Intn(1000)), 0, 1, 2, 16, 10000, supply, 1<<62, top)
	case *bool:
		*x = !*x
	case *api.Dec:
		*x = nearDec(r, *x)
	}
	return put(record)
}

// nearDec draws a Dec beside another one, or at an edge.
func nearDec(r *rand.Rand, d api.Dec) api.Dec {
	step := decOf(new(big.Int).Exp(big.NewInt(10), big.NewInt(int64(r.Intn(60))), nil))
	lower, _ := dec.Sub(d, step)
	edge := decOf(new(big.Int).Exp(big.NewInt(10), big.NewInt(86+4*int64(r.Intn(2))), nil))
	return []api.Dec{dec.Add(d, step), lower, dec.Mul(d, dec.Basis(uint64(r.Intn(10001)))), {}, edge}[r.Intn(5)]
}

// tweaked tells an entry's value with a field that is changed; nil, if it has no fields.
func tweaked(r *rand.Rand, k api.Key, b []byte) []byte {
	switch k.Kind {
	case api.KeyParams:
		return reput(r, b, rec.Params, rec.PutParams)
	case api.KeyChain:
		return reput(r, b, rec.Chain, rec.PutChain)
	case api.KeyAccount:
		return reput(r, b, rec.Account, rec.PutAccount)
	case api.KeyVal:
		return reput(r, b, rec.Val, rec.PutVal)
	case api.KeyDelegation:
		return reput(r, b, rec.Delegation, rec.PutDelegation)
	case api.KeyHistory:
		return reput(r, b, rec.History, rec.PutHistory)
	case api.KeyCut:
		return reput(r, b, rec.Cut, rec.PutCut)
	case api.KeyTomb:
		return reput(r, b, rec.Number, rec.PutNumber)
	case api.KeyUnbonding:
		return reput(r, b, rec.Unbonding, rec.PutUnbonding)
	case api.KeyMove:
		return reput(r, b, rec.Move, rec.PutMove)
	}
	return nil
}

// spread has coins lie with Shared for the pool or for what is outstanding of a validator, so that both match still; many ones often, as then ratios may be greater.
func spread(r *rand.Rand, s *kv.Store, id uint64) {
	n := uint64(r.Int63n(1 << (1 + r.Intn(50))))
	v, there := dist.Val(s, id)
	bank.Mint(s, api.Shared, n)
	if !there || r.Intn(3) == 0 {
		dist.Pour(s, dec.Of(n))
		return
	}
	v.Outstanding = dec.Add(v.Outstanding, dec.Of(n))
	switch r.Intn(3) {
	case 0:
		v.Current = dec.Add(v.Current, dec.Of(n))
	case 1:
		v.Commission = dec.Add(v.Commission, dec.Mul(dec.Of(n), dec.Basis(uint64(r.Intn(10001)))))
	}
	dist.SetVal(s, id, v)
}

// strange does drawn things to a sound store, those alone that leave it sound: a state as somebody may hand it in, which no run has.
func strange(r *rand.Rand, s *kv.Store) (*kv.Store, int) {
	done := 0
	for range 60 {
		x := s.Copy()
		if r.Intn(6) == 0 {
			spread(r, x, drawnUser(r))
		} else {
			all := x.Dump()
			p := all[r.Intn(len(all))]
			k, _ := keys.Read(p.Key)
			if b := tweaked(r, k, p.Value); b != nil {
				x.Set(p.Key, b)
			}
		}
		if sound.Check(x) == 0 {
			s = x
			done++
		}
	}
	return s, done
}

// someItem draws an item for an engine's store, whatever lies there.
func someItem(r *rand.Rand, s *kv.Store) []byte {
	pick := func() uint64 { return drawnUser(r) }
	if r.Intn(8) == 0 {
		return fault(byte(drawnOf(r, double, down, down)), pick(), stake.Chain(s).Height-uint64(r.Intn(2)))
	}
	kind, sender := byte(1+r.Intn(spend)), pick()
	at, _ := fields(kind)
	var uses []uint64
	for _, i := range at {
		uses = append(uses, []uint64{pick(), pick(), drawnCoins(r)}[i])
	}
	if kind == create {
		uses[0] = uint64(r.Intn(10001))
	}
	return tx(sender, bank.Get(s, sender).Seq, stake.Params(s).Fee+uint64(r.Intn(9)), kind, uses...)
}

// P20.5 to P20.7: an engine over whatever sound state keeps it sound, makes and loses no coin, and takes few operations.
func TestStrangeStates(t *testing.T) {
	r := rand.New(rand.NewSource(309))
	changes, engines := 0, 0
	for range 150 {
		b := drawnRun(r)
		e := engine(t, b)
		for range 25 {
			doBlock(t, e, b, drawnBlock(r, b)...)
		}
		s, done := strange(r, e.Store())
		changes += done
		e, err := app.New(s)
		if err != api.OK {
			continue
		}
		engines++
		all := bank.Sum(s)
		for range 25 {
			runOn(t, r, e)
			if got := bank.Sum(e.Store()); !slices.Equal(got, all) {
				t.Fatalf("P20.6: %v coins, not %v", got, all)
			}
		}
	}
	if changes < 1000 || engines < 100 {
		t.Errorf("P20.5: only %d changes, %d engines", changes, engines)
	}
}

// runOn does a block by its parts.
func runOn(t *testing.T, r *rand.Rand, e *app.Engine) {
	t.Helper()
	n := len(power.Bonded(e.Store()))
	if got := e.Begin().Ops; got > 40*(n+1) {
		t.Fatalf("P20.7: a beginning with %d bonded took %d operations", n, got)
	}
	for range r.Intn(6) {
		e.Deliver(someItem(r, e.Store()))
	}
	e.End()
	wantSound(t, e.Store())
}
