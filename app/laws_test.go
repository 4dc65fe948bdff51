package app_test

import (
	"math/rand"
	"slices"
	"testing"

	"glean/api"
	"glean/bank"
	"glean/kv"
)

// P20.1 to P20.6, P30.1: whatever blocks there are, the reports and what lies there are what the chapters say, each state is sound, no coin is made or lost.
func TestWhateverIsDone(t *testing.T) {
	r := rand.New(rand.NewSource(301))
	done, refused := map[byte]int{}, map[api.Errno]int{}
	for range 120 {
		b := drawnRun(r)
		e := engine(t, b)
		all := bank.Sum(e.Store())
		for range 60 {
			items := drawnBlock(r, b)
			report := doBlock(t, e, b, items...)
			for i, reply := range report.Replies {
				refused[reply.Err]++
				if reply.Err == api.OK {
					done[readItem(items[i]).kind+map[bool]byte{true: 100}[readItem(items[i]).fault]]++
				}
			}
			if got := bank.Sum(e.Store()); !slices.Equal(got, all) {
				t.Fatalf("P20.6: %v coins, not %v", got, all)
			}
		}
	}
	for _, kind := range []byte{send, create, delegate, undelegate, redelegate, withdraw, commission, unjail, fund, spend, 100 + double, 100 + down} {
		if done[kind] < 40 {
			t.Errorf("the drawn runs have too few of kind %d: %v", kind, done)
		}
	}
	for _, e := range []api.Errno{90, 100, 102, 140, 141, 142, 150, 151, 152, 153, 154, 155, 156, 157, 160, 161, 162, 163, 164, 165, 166, 170, 180, 181, 182, 183, 202, 203} {
		if refused[e] < 5 {
			t.Errorf("the drawn runs have too few of error %d: %v", e, refused)
		}
	}
}

// changedKeys tells the keys under which another thing lies now, or nothing.
func changedKeys(was, now *kv.Store) [][]byte {
	var all [][]byte
	for _, p := range now.Dump() {
		if v, there := was.Get(p.Key); !there || !slices.Equal(v, p.Value) {
			all = append(all, p.Key)
		}
	}
	for _, p := range was.Dump() {
		if !now.Has(p.Key) {
			all = append(all, p.Key)
		}
	}
	return all
}

// P20.6: what is refused has changed the fee and the sequence alone; what isn't admitted, or is no item, or a fault that is refused, nothing. Asked of the store's bytes alone.
func TestRefusedChangesTheFeeAlone(t *testing.T) {
	r := rand.New(rand.NewSource(302))
	paid, free := 0, 0
	for range 40 {
		b := drawnRun(r)
		e := engine(t, b)
		for range 40 {
			e.Begin()
			b.begin()
			for range r.Intn(9) {
				item, was := drawnItem(r, b), e.Store()
				b.deliver(item)
				reply := e.Deliver(item)
				i := readItem(item)
				changed := changedKeys(was, e.Store())
				admitted := i.tx && reply.Err/10 != 17 && reply.Err/10 != 18
				switch {
				case reply.Err != api.OK && !admitted:
					free++
					if len(changed) > 0 {
						t.Fatalf("P20.6: %v: %x have changed", reply.Err, changed)
					}
				case reply.Err != api.OK:
					paid++
					wantFee(t, was, e.Store(), i, changed)
				}
			}
			e.End()
			b.finish()
		}
	}
	if paid < 500 || free < 500 {
		t.Errorf("P20.6: only %d that have paid, %d that haven't", paid, free)
	}
}

// wantFee fails unless a refused transaction has changed its sender's coins and sequence and the collector's coins, by the fee, and nothing else.
func wantFee(t *testing.T, was, now *kv.Store, i read, changed [][]byte) {
	t.Helper()
	for _, k := range changed {
		if !slices.Equal(k, spelt([]byte{0x61}, i.sender)) && !slices.Equal(k, spelt([]byte{0x61}, collector)) {
			t.Fatalf("P20.6: %x has changed", k)
		}
	}
	from, to := bank.Get(was, i.sender), bank.Get(was, collector)
	if got := bank.Get(now, i.sender); got != (api.Account{Coins: from.Coins - i.fee, Seq: from.Seq + 1}) {
		t.Fatalf("P20.6: the sender %+v became %+v by a fee of %d", from, got, i.fee)
	}
	if got := bank.Get(now, collector); got != (api.Account{Coins: to.Coins + i.fee, Seq: to.Seq}) {
		t.Fatalf("P20.6: the collector %+v became %+v by a fee of %d", to, got, i.fee)
	}
}

// P20.6: items that are none, or aren't admitted, are as if they weren't there.
func TestSilence(t *testing.T) {
	r := rand.New(rand.NewSource(303))
	left := 0
	for range 30 {
		b := drawnRun(r)
		e, quiet := engine(t, b), engine(t, b)
		for range 40 {
			items := drawnBlock(r, b)
			report := doBlock(t, e, b, items...)
			var some [][]byte
			for i, reply := range report.Replies {
				if reply.Err/10 == 17 || reply.Err/10 == 18 {
					left++
					continue
				}
				some = append(some, items[i])
			}
			quiet.Block(some)
			wantBook(t, "P20.6: without what isn't admitted", quiet.Store(), b)
		}
	}
	if left < 300 {
		t.Errorf("only %d were left out", left)
	}
}

// P20.5: all can leave, whatever was done; then no validator is left, nothing is bonded, and Shared's coins are the pool.
func TestAllLeave(t *testing.T) {
	r := rand.New(rand.NewSource(304))
	for range 40 {
		b := drawnRun(r)
		b.params[0].Unbond, b.params[0].Entries, b.params[0].Fee = 2, 16, 0
		e := engine(t, b)
		for range 40 {
			doBlock(t, e, b, drawnBlock(r, b)...)
		}
		for range 4 { // those who have too many entries under way leave when these have matured
			for _, del := range users() {
				for _, val := range users() {
					doItem(t, e, b, tx(del, b.seq(del), 0, undelegate, val, 0))
				}
			}
		}
		doBlock(t, e, b)
		doBlock(t, e, b)
		if len(b.vals) > 0 || len(b.dels) > 0 || b.purses[bonded].Coins > 0 || b.purses[loose].Coins > 0 {
			t.Fatalf("P20.5: all have left: %v, %v, %v", b.vals, b.dels, b.purses)
		}
		wantDec(t, "P20.5: the pool", decOf(b.pool), decOf(coins(b.purses[shared].Coins)))
	}
}

// P20.2: behind two empty blocks, if nothing is under way, one more changes the height and nothing else.
func TestIdle(t *testing.T) {
	r := rand.New(rand.NewSource(305))
	for range 30 {
		b := drawnRun(r)
		b.params[0].Unbond = 2
		e := engine(t, b)
		for range 20 {
			doBlock(t, e, b, drawnBlock(r, b)...)
		}
		doBlock(t, e, b)
		doBlock(t, e, b)
		was := e.Store()
		report := doBlock(t, e, b)
		if changed := changedKeys(was, e.Store()); len(changed) != 1 || string(changed[0]) != "c" || len(report.Gave)+len(report.Matured)+len(report.Went)+len(report.Came) > 0 {
			t.Fatalf("P20.2: an idle block: %x, %+v", changed, report)
		}
	}
}
