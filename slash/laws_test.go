package slash_test

import (
	"math/big"
	"math/rand"
	"slices"
	"testing"

	"glean/api"
	"glean/bank"
	"glean/dec"
	"glean/dist"
	"glean/f1"
	"glean/kv"
	"glean/power"
	"glean/queue"
	"glean/slash"
	"glean/stake"
)

// P16.1, P16.2: whatever is done, in whatever order, there lies what the chapter says, and it is told; P16.3: no coin is made or lost.
func TestWhateverIsDone(t *testing.T) {
	r := rand.New(rand.NewSource(201))
	done := map[string]int{}
	for range 250 {
		s, b := drawnRun(r)
		all := bank.Sum(s)
		for range 150 {
			was := b.copied()
			step(t, r, s, b)
			wantHouses(t, s, b)
			if got := bank.Sum(s); !slices.Equal(got, all) {
				t.Fatalf("P16.3: %v coins, not %v", got, all)
			}
			count(done, was, b)
		}
	}
	for what, least := range map[string]int{"cuts": 500, "jailed": 500, "let out": 500, "tombs": 50, "clipped unbondings": 50, "clipped moves": 50} {
		if done[what] < least {
			t.Errorf("the drawn runs have too few %s: %d", what, done[what])
		}
	}
}

// count counts what a step did.
func count(done map[string]int, was, now *book) {
	done["cuts"] += max(0, len(now.cuts)-len(was.cuts))
	done["tombs"] += len(now.tombs) - len(was.tombs)
	for id, v := range was.vals {
		w, there := now.vals[id]
		if there && !v.Jailed && w.Jailed {
			done["jailed"]++
		}
		if there && v.Jailed && !w.Jailed {
			done["let out"]++
		}
	}
	for id, u := range was.unbondings {
		if w, there := now.unbondings[id]; there && w.Balance < u.Balance {
			done["clipped unbondings"]++
		}
	}
	for id, m := range was.moves {
		if w, there := now.moves[id]; there && value(w.Shares).Cmp(value(m.Shares)) < 0 {
			done["clipped moves"]++
		}
	}
}

// wantHouses fails unless P15.10 and P15.11 hold of a store, asked by the layers below.
func wantHouses(t *testing.T, s *kv.Store, b *book) {
	t.Helper()
	var tied, free uint64
	owed := dist.Pool(s)
	parts := map[uint64]*big.Int{}
	for p := range b.dels {
		d, _ := dist.Delegation(s, p.val, p.del)
		if parts[p.val] == nil {
			parts[p.val] = new(big.Int)
		}
		parts[p.val].Add(parts[p.val], value(d.Shares))
	}
	for id := range b.vals {
		v, _ := dist.Val(s, id)
		if v.Bonded {
			tied += v.Tokens
		} else {
			free += v.Tokens
		}
		owed = dec.Add(owed, v.Outstanding)
		if parts[id] == nil || value(v.Shares).Cmp(parts[id]) != 0 || parts[id].Cmp(most) > 0 {
			t.Fatalf("P15.11: %d has %s shares, its delegations %v", id, dec.Text(v.Shares), parts[id])
		}
	}
	for id := range b.unbondings {
		u, _ := queue.Unbonding(s, id)
		free += u.Balance
	}
	wantCoins(t, "P16.3, P15.10: Bonded's coins", bank.Get(s, api.Bonded).Coins, tied)
	wantCoins(t, "P16.3, P15.10: Loose's coins", bank.Get(s, api.Loose).Coins, free)
	wantDec(t, "P16.3, P15.10: Shared's coins", dec.Of(bank.Get(s, api.Shared).Coins), owed)
}

// unbondings tells all unbondings of a store, asked by the layer below.
func unbondings(s *kv.Store) map[uint64]api.Unbonding {
	all := map[uint64]api.Unbonding{}
	for id := range stake.Chain(s).Next {
		if u, there := queue.Unbonding(s, id); there {
			all[id] = u
		}
	}
	return all
}

// P16.3: at most f of each thing is cut, of Tokens, of each unbonding's Initial; what is cut goes to Shared and the pool.
func TestAtMostThePart(t *testing.T) {
	r := rand.New(rand.NewSource(202))
	faults, clipped := 0, 0
	for range 200 {
		s, b := drawnRun(r)
		b.params = []api.Params{{Max: 3, Unbond: 9, Entries: 99, Age: 3, Double: uint64(r.Intn(10001)), Down: uint64(r.Intn(10001))}}
		b.lay(s)
		for range 80 {
			step(t, r, s, b)
			val := drawnCulprit(r, b)
			kind, height := []int{double, down}[min(1, r.Intn(9))], b.stand().Height-uint64(r.Intn(4))
			f := map[int]uint64{double: b.param().Double, down: b.param().Down}[kind]
			v, _ := dist.Val(s, val)
			left, shared := unbondings(s), bank.Get(s, api.Shared).Coins
			paid, n, e := slash.Fault(s, kind, val, height)
			b.fault(kind, val, height)
			wantBook(t, "P16.1: behind Fault", s, b)
			if e != api.OK {
				continue
			}
			faults++
			now, _ := dist.Val(s, val)
			wantMost(t, "P16.3: of Tokens", v.Tokens, v.Tokens, now.Tokens, f)
			var w uint64
			for _, p := range paid {
				w += p.W
			}
			for id, u := range left {
				now, there := queue.Unbonding(s, id)
				if !there {
					t.Fatalf("P16.3: unbonding %d is gone", id)
				}
				wantMost(t, "P16.3: of an unbonding", u.Initial, u.Balance, now.Balance, f)
				if now.Balance < u.Balance {
					clipped++
				}
			}
			if len(paid) == 0 { // else validators may have ended, and have been paid
				wantCoins(t, "P16.3: what is cut goes to Shared", bank.Get(s, api.Shared).Coins, shared+n-w)
			}
		}
	}
	if faults < 300 || clipped < 50 {
		t.Errorf("P16.3: only %d faults, %d cut unbondings", faults, clipped)
	}
}

// wantMost fails if more than f parts of something were cut, or if it has become more.
func wantMost(t *testing.T, what string, of, was, now, f uint64) {
	t.Helper()
	if now > was || new(big.Int).Mul(whole(was-now), big.NewInt(10000)).Cmp(new(big.Int).Mul(whole(of), whole(f))) > 0 {
		t.Fatalf("%s: %d became %d by %d parts of %d", what, was, now, f, of)
	}
}

// P16.4: behind FaultDouble a validator is never again in the index, nor bonded behind the next Elect; nothing can be cut by its faults again.
func TestNeverAgain(t *testing.T) {
	r := rand.New(rand.NewSource(203))
	buried := 0
	for range 60 {
		s, b := drawnRun(r)
		b.params = []api.Params{{Max: 64, Unbond: 3, Entries: 99, Age: top, Double: uint64(r.Intn(5)) * 2500, Down: 100}}
		b.lay(s)
		for range 100 {
			step(t, r, s, b)
			for _, id := range power.Top(s, 99) {
				if _, over := slash.Tomb(s, id); over {
					t.Fatalf("P16.4: %d is in the index", id)
				}
			}
			for _, id := range users() {
				if _, over := slash.Tomb(s, id); over {
					buried++
					wantOver(t, s, b, id)
				}
			}
		}
		doElect(t, s, b)
		for _, id := range power.Bonded(s) {
			if _, over := slash.Tomb(s, id); over {
				t.Fatalf("P16.4: %d is bonded", id)
			}
		}
	}
	if buried < 500 {
		t.Errorf("P16.4: only %d tombs", buried)
	}
}

// wantOver fails unless nothing can be cut by a validator's faults, and it can't come back.
func wantOver(t *testing.T, s *kv.Store, b *book, id uint64) {
	t.Helper()
	want := api.ErrSlashTomb
	if _, there := dist.Val(s, id); !there {
		want = api.ErrSlashNone
		if _, e := stake.Create(s, id, 0, 1); e != api.ErrStakeTomb {
			t.Fatalf("P16.4: Create: %v", e)
		}
	}
	for _, kind := range []int{double, down} {
		_, _, e := slash.Fault(s, kind, id, b.stand().Height)
		wantErr(t, "P16.4: a further fault", e, want)
	}
	wantErr(t, "P16.4: Unjail", slash.Unjail(s, id), want)
	wantBook(t, "P16.4: nothing can be cut", s, b)
}

// P16.3: behind faults all can leave, and what was bound, less what was cut, comes back; then no key of a validator is left.
func TestAllLeave(t *testing.T) {
	r := rand.New(rand.NewSource(204))
	for range 60 {
		s, b := drawnRun(r)
		b.params = []api.Params{{Max: 2, Unbond: 2, Entries: 999, Age: 5, Double: 3000, Down: 777}}
		b.lay(s)
		for range 100 {
			step(t, r, s, b)
		}
		for _, val := range users() {
			for _, del := range users() {
				doUndelegate(t, s, b, val, del, 0)
			}
		}
		doHeight(s, b, b.stand().Height+2)
		doMature(t, s, b)
		if len(b.vals) > 0 || len(b.dels) > 0 || b.purses[bonded].Coins > 0 || b.purses[loose].Coins > 0 {
			t.Fatalf("P16.3: all have left: %v, %v, %v", b.vals, b.dels, b.purses)
		}
		wantDec(t, "P16.3: the pool", dist.Pool(s), dec.Of(bank.Get(s, api.Shared).Coins))
	}
}

// P16.1, P13.6: histories number at most 1, and the delegations, and the cuts.
func TestHistories(t *testing.T) {
	r := rand.New(rand.NewSource(205))
	for range 40 {
		s, b := drawnRun(r)
		for range 100 {
			step(t, r, s, b)
			behind := map[uint64]int{}
			for p := range b.dels {
				behind[p.val]++
			}
			for id := range b.vals {
				if histories, cuts := f1.Count(s, id); histories > 1+behind[id]+cuts {
					t.Fatalf("P13.6: %d histories of %d, with %d delegations and %d cuts", histories, id, behind[id], cuts)
				}
			}
		}
	}
}
