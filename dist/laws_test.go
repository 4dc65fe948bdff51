package dist_test

import (
	"math/big"
	"math/rand"
	"slices"
	"sync"
	"testing"

	"glean/api"
	"glean/bank"
	"glean/dec"
	"glean/dist"
	"glean/f1"
	"glean/kv"
	"glean/power"
	"glean/rec"
)

// P14.1 to P14.6: whatever is done, in whatever order, there lies what the chapter says, and it is told.
func TestWhateverIsDone(t *testing.T) {
	r := rand.New(rand.NewSource(151))
	for range 60 {
		b := drawnBook(r)
		s := b.store()
		for range 100 {
			doOne(t, r, s, b)
			wantBook(t, "P14.1 to P14.6: behind a call", s, b)
			wantDec(t, "P14.1: Pool", dist.Pool(s), decOf(b.pool))
		}
	}
}

// run: a chain's life by honest calls alone.
type run struct {
	s    *kv.Store
	vals []uint64
	dels []pair
}

// newRun begins one: four validators, the last one not bonded, with delegations by their shares; coins with users and fees.
func newRun(r *rand.Rand) *run {
	u := &run{s: kv.New()}
	u.s.Set([]byte{0x70}, rec.PutParams(api.Params{Tax: uint64(r.Intn(3)) * 333}))
	for id := uint64(16); id < 20; id++ {
		shares := dec.Of(0)
		v := f1.Start(u.s, id, api.Validator{Rate: []uint64{0, 1, 3333, 10000}[r.Intn(4)], Tokens: 1 + uint64(r.Int63n(1<<r.Intn(40)))})
		parts := make([]api.Dec, 1+r.Intn(5))
		for i := range parts {
			parts[i] = dec.Add(decOf(big.NewInt(r.Int63())), dec.Of(uint64(r.Intn(1000))))
			shares = dec.Add(shares, parts[i])
		}
		v.Shares = shares
		for i, x := range parts {
			p := pair{id, 16 + uint64(i)}
			dist.SetDelegation(u.s, p.val, p.del, f1.Hold(u.s, id, v, api.Delegation{Shares: x}))
			u.dels = append(u.dels, p)
		}
		dist.SetVal(u.s, id, v)
		power.Bond(u.s, id, id < 19)
		bank.Mint(u.s, id, 1_000_000)
		u.vals = append(u.vals, id)
	}
	return u
}

// shared tells what the pool and all Outstanding are together.
func (u *run) shared() api.Dec {
	all := dist.Pool(u.s)
	for _, id := range u.vals {
		v, _ := dist.Val(u.s, id)
		all = dec.Add(all, v.Outstanding)
	}
	return all
}

// cut cuts a validator to less, as a fault does; to nothing, now and then.
func (u *run) cut(r *rand.Rand, id uint64) {
	v, _ := dist.Val(u.s, id)
	v, pool := f1.Close(u.s, id, v)
	dist.Pour(u.s, pool)
	if v.Tokens > 0 {
		after := uint64(r.Int63n(int64(v.Tokens)))
		if r.Intn(8) == 0 {
			after = 0
		}
		v = f1.Cut(u.s, id, v, after)
	}
	dist.SetVal(u.s, id, v)
}

// settle settles a delegation, which is held anew.
func (u *run) settle(p pair) {
	v, _ := dist.Val(u.s, p.val)
	v, _ = dist.Settle(u.s, p.val, v, p.del)
	d, _ := dist.Delegation(u.s, p.val, p.del)
	dist.SetDelegation(u.s, p.val, p.del, f1.Hold(u.s, p.val, v, d))
	dist.SetVal(u.s, p.val, v)
}

// step does one drawn thing.
func (u *run) step(r *rand.Rand) {
	id, p := u.vals[r.Intn(len(u.vals))], u.dels[r.Intn(len(u.dels))]
	n := uint64(r.Int63n(1 << r.Intn(12)))
	switch r.Intn(9) {
	case 0, 1, 2:
		bank.Move(u.s, id, api.Collector, n)
		dist.Allocate(u.s)
	case 3:
		dist.Withdraw(u.s, p.val, p.del)
	case 4:
		u.settle(p)
	case 5:
		dist.Commission(u.s, id)
	case 6:
		dist.Fund(u.s, id, n)
	case 7:
		dist.Spend(u.s, p.del, n)
	default:
		if r.Intn(4) == 0 {
			u.cut(r, id)
		}
	}
}

// P14.7: Shared's coins are the pool and all Outstanding together, behind each call; no coin is made or lost.
func TestSharedIsCovered(t *testing.T) {
	r := rand.New(rand.NewSource(157))
	for range 40 {
		u := newRun(r)
		coins := bank.Sum(u.s)
		for range 150 {
			u.step(r)
			wantDec(t, "P14.7: the pool and all Outstanding", u.shared(), dec.Of(bank.Get(u.s, api.Shared).Coins))
			if got := bank.Sum(u.s); !slices.Equal(got, coins) {
				t.Fatalf("P14.7: %v coins, not %v", got, coins)
			}
		}
	}
}

// P14.7: also at what isn't honest but covered: whatever Rates, Tokens, Stakes and histories there are.
func TestSharedIsCoveredDrawn(t *testing.T) {
	r := rand.New(rand.NewSource(158))
	for range 800 {
		b := newBook()
		b.params = []api.Params{{Tax: drawn(r)}}
		left := coins(uint64(r.Intn(1_000_000)))
		b.purses[shared] = api.Account{Coins: new(big.Int).Quo(left, scale).Uint64()}
		b.purses[collector] = api.Account{Coins: uint64(r.Intn(1000))}
		for _, id := range []uint64{16, 17, top} {
			v := drawnVal(r)
			part := new(big.Int).Rand(r, sum(left, big.NewInt(1)))
			left = fall(left, part)
			v.Outstanding, v.Current = decOf(part), decOf(new(big.Int).Quo(part, big.NewInt(2)))
			v.Commission = decOf(fall(part, value(v.Current)))
			b.vals[id] = normalVal(v)
			if r.Intn(4) > 0 {
				b.bonded[id] = true
			}
			b.dels[pair{id, 20}] = normalDelegation(drawnDelegation(r))
			b.pasts[place{id, drawnPeriod(r)}] = past{value(drawnDec(r)), 1}
		}
		b.pour(left)
		s := b.store()
		all := bank.Sum(s)
		u := &run{s: s, vals: []uint64{16, 17, top}, dels: []pair{{16, 20}, {17, 20}, {top, 20}}}
		for range 12 {
			if r.Intn(2) == 0 {
				dist.Allocate(s)
			} else {
				dist.Withdraw(s, u.vals[r.Intn(3)], 20)
			}
			wantDec(t, "P14.7: the pool and all Outstanding", u.shared(), dec.Of(bank.Get(s, api.Shared).Coins))
		}
		if !slices.Equal(bank.Sum(s), all) {
			t.Fatalf("P14.7: %v coins, not %v", bank.Sum(s), all)
		}
	}
}

// P14.8: behind Withdraw a second one pays nothing; what the first one paid is what f1.Claim tells, as honest Outstanding covers it.
func TestWithdrawTwice(t *testing.T) {
	r := rand.New(rand.NewSource(159))
	paidAny := 0
	for range 40 {
		u := newRun(r)
		for range 60 {
			u.step(r)
			p := u.dels[r.Intn(len(u.dels))]
			other := u.s.Copy()
			v, _ := dist.Val(other, p.val)
			d, _ := dist.Delegation(other, p.val, p.del)
			v, _ = f1.Close(other, p.val, v)
			claim, _ := f1.Claim(other, p.val, v, d)
			paid, e := dist.Withdraw(u.s, p.val, p.del)
			wantErr(t, "P14.5: Withdraw", e, api.OK)
			wantDec(t, "P14.8: what is paid", dec.Add(dec.Of(paid.W), paid.Q), claim)
			if dec.Cmp(paid.Q, dec.Of(1)) >= 0 {
				t.Fatalf("P14.4: %s is left", dec.Text(paid.Q))
			}
			again, e := dist.Withdraw(u.s, p.val, p.del)
			wantErr(t, "P14.8: a second Withdraw", e, api.OK)
			wantPaid(t, "P14.8: a second Withdraw", again, api.Paid{Val: p.val, Del: p.del, Left: d.Shares, Tokens: v.Tokens, Shares: v.Shares})
			if paid.W > 0 {
				paidAny++
			}
		}
	}
	if paidAny < 50 {
		t.Errorf("P14.8: only %d were paid a coin", paidAny)
	}
}

// P14.8: a second Withdraw pays nothing, also about the end of the periods.
func TestWithdrawTwiceAtTheEnd(t *testing.T) {
	for _, period := range []uint64{top - 2, top - 1, top, 0, 1, 2} {
		b := owed(t, "10", "1", 100)
		v := b.vals[16]
		v.Period = period
		b.vals[16] = v
		s := b.store()
		doWithdraw(t, s, b, 16, 20)
		paid, _ := dist.Withdraw(s, 16, 20)
		wantPaid(t, "P14.8: a second Withdraw", paid, api.Paid{Val: 16, Del: 20, Left: dec.Of(2), Tokens: 4, Shares: dec.Of(4)})
	}
}

// P14.3, P14.5: what is done with the store doesn't grow with the periods gone by, nor with who delegates beside.
func TestWork(t *testing.T) {
	r := rand.New(rand.NewSource(160))
	for range 10 {
		u := newRun(r)
		for i := range uint64(200) {
			dist.SetDelegation(u.s, 16, 1000+i, api.Delegation{Shares: dec.Of(1)})
		}
		for range 100 {
			u.step(r)
			p := u.dels[r.Intn(len(u.dels))]
			_, cuts := f1.Count(u.s, p.val)
			was := u.s.Ops()
			dist.Withdraw(u.s, p.val, p.del)
			if took := u.s.Ops() - was; took > 100+12*cuts {
				t.Fatalf("P14.5: Withdraw along at most %d cuts took %d operations", cuts, took)
			}
			bank.Move(u.s, p.del, api.Collector, 1)
			was = u.s.Ops()
			dist.Allocate(u.s)
			if took := u.s.Ops() - was; took > 30*4 {
				t.Fatalf("P14.3: Allocate to 3 took %d operations", took)
			}
		}
	}
}

// P14.1 to P14.6: what is done within a journal is taken back with it, and nothing else.
func TestWithinAJournal(t *testing.T) {
	r := rand.New(rand.NewSource(161))
	b := drawnBook(r)
	s := b.store()
	for range 100 {
		s.Begin()
		within := b.copied()
		for range 8 {
			doOne(t, r, s, within)
		}
		wantBook(t, "within a journal", s, within)
		if r.Intn(2) == 0 {
			s.Commit()
			b = within
		} else {
			s.Rollback()
		}
		if s.Depth() != 0 {
			t.Fatal("a journal is left under way")
		}
		wantBook(t, "behind a journal", s, b)
	}
}

// P14.1 to P14.6: two stores don't touch one another, and one may be asked by several at once.
func TestStoresApart(t *testing.T) {
	r := rand.New(rand.NewSource(162))
	b := drawnBook(r)
	first, now := b.store(), b.copied()
	second := first.Copy()
	for range 200 {
		doOne(t, r, second, now)
	}
	wantBook(t, "beside another store", first, b)
	wantBook(t, "a copy", second, now)
	var all sync.WaitGroup
	failed := make([]bool, 8)
	for i := range failed {
		all.Go(func() {
			for id, want := range b.vals {
				got, there := dist.Val(first, id)
				failed[i] = failed[i] || !there || !sameVal(got, want)
			}
			for p, want := range b.dels {
				got, there := dist.Delegation(first, p.val, p.del)
				failed[i] = failed[i] || !there || !sameDelegation(got, want)
			}
			failed[i] = failed[i] || value(dist.Pool(first)).Cmp(b.pool) != 0
		})
	}
	all.Wait()
	if slices.Contains(failed, true) {
		t.Errorf("P14.1: asked by several at once: %v", failed)
	}
}
