package ante_test

import (
	"math/rand"
	"slices"
	"sync"
	"testing"

	"glean/ante"
	"glean/api"
	"glean/kv"
	"glean/stake"
)

// P18.1: whatever is sent, in whatever order, it is answered as the chapter says; no coin is made or lost.
func TestWhateverIsSent(t *testing.T) {
	r := rand.New(rand.NewSource(181))
	told := map[api.Errno]int{}
	for range 60 {
		s := begun(uint64(r.Intn(4)), nil)
		for id := uint64(16); id < 21; id++ {
			lay(s, id, api.Account{Coins: r.Uint64() % supply >> r.Intn(60) / 5, Seq: top - uint64(r.Intn(8))})
		}
		all := stateOf(s).coins()
		for range 100 {
			told[wantAdmit(t, s, drawn(r, stateOf(s)))]++
			if now := stateOf(s).coins(); now.Cmp(all) != 0 {
				t.Fatalf("P18.1: %v coins, not %v", now, all)
			}
			if r.Intn(20) == 0 {
				stake.SetParams(s, api.Params{Fee: uint64(r.Intn(6))})
			}
		}
	}
	for _, e := range []api.Errno{api.OK, api.ErrAnteWho, api.ErrAnteFee, api.ErrAntePay, api.ErrAnteSeq} {
		if told[e] < 50 {
			t.Errorf("the drawn runs tell %v too seldom: %d", e, told[e])
		}
	}
}

// P18.2: of the same transaction twice, the second one is refused: by its sequence, or by an error ahead of that.
func TestTwice(t *testing.T) {
	r := rand.New(rand.NewSource(182))
	second := map[api.Errno]int{}
	for range 60 {
		s := begun(uint64(r.Intn(4)), nil)
		for id := uint64(16); id < 21; id++ {
			lay(s, id, api.Account{Coins: uint64(r.Intn(60)), Seq: top - uint64(r.Intn(4))})
		}
		for range 60 {
			x := drawn(r, stateOf(s))
			if wantAdmit(t, s, x) != api.OK {
				continue
			}
			e := wantAdmit(t, s, x)
			second[e]++
			if e != api.ErrAnteSeq && e != api.ErrAntePay {
				t.Fatalf("P18.2: Admit(%+v) twice: %v", x, e)
			}
		}
	}
	if second[api.ErrAnteSeq] < 100 || second[api.ErrAntePay] < 20 {
		t.Errorf("the drawn runs have too few of one kind: %v", second)
	}
	s := begun(3, map[uint64]api.Account{16: {Coins: 9}})
	wantErr(t, s, 16, 0, 3, api.OK)
	stake.SetParams(s, api.Params{Fee: 4})
	wantErr(t, s, 16, 0, 3, api.ErrAnteFee)
}

// P18.2: what is admitted changes two accounts' records and nothing else, whatever lies beside; what is refused, nothing.
func TestTwoAccountsAlone(t *testing.T) {
	first := worked(t)
	r := rand.New(rand.NewSource(183))
	admitted := 0
	for range 40 {
		s := first.Copy()
		for range 20 {
			was := stateOf(s)
			x := drawn(r, was)
			e := ante.Admit(s, x)
			changed := changes(was, stateOf(s))
			want := []string{accountKey(collector), accountKey(x.Sender)}
			if e != api.OK {
				want = nil
			} else {
				admitted++
			}
			if !slices.Equal(changed, want) {
				t.Fatalf("P18.2: Admit(%+v): %v, it changed %x, not %x", x, e, changed, want)
			}
		}
	}
	if admitted < 100 {
		t.Errorf("only %d were admitted", admitted)
	}
}

// changes tells the keys whose values differ, rising.
func changes(was, now state) []string {
	var all []string
	for k, v := range was {
		if w, there := now[k]; !there || w != v {
			all = append(all, k)
		}
	}
	for k := range now {
		if _, there := was[k]; !there {
			all = append(all, k)
		}
	}
	slices.Sort(all)
	return all
}

// P18.1: what is admitted within journals, however many are under way, is taken back with them, and the journals stay the caller's.
func TestAtEachDepth(t *testing.T) {
	for depth := range api.MaxDepth + 1 {
		s := worked(t)
		was := stateOf(s)
		for range depth {
			s.Begin()
		}
		x := api.Tx{Sender: 21, Fee: 3}
		if e := wantAdmit(t, s, x); e != api.OK {
			t.Fatalf("P18.1: with %d journals: %v", depth, e)
		}
		if e := wantAdmit(t, s, x); e != api.ErrAnteSeq {
			t.Fatalf("P18.2: with %d journals: %v", depth, e)
		}
		if s.Depth() != depth {
			t.Fatalf("P18.1: %d journals are under way, not %d", s.Depth(), depth)
		}
		for range depth {
			s.Rollback()
		}
		if depth > 0 {
			wantState(t, "P18.1: behind Rollback", s, was)
			wantErr(t, s, 21, 0, 3, api.OK)
		}
	}
}

// DOC.md, what holds everywhere, 9: what is answered hangs on the store alone: of copies, at once, the same.
func TestStoresApart(t *testing.T) {
	first := worked(t)
	was := stateOf(first)
	r := rand.New(rand.NewSource(184))
	var sent []api.Tx
	var want []api.Errno
	now := stateOf(first)
	for range 200 {
		sent = append(sent, drawn(r, now))
		want = append(want, now.admit(sent[len(sent)-1]))
	}
	copies, told := make([]*kv.Store, 8), make([][]api.Errno, 8)
	for i := range copies {
		copies[i] = first.Copy()
	}
	var all sync.WaitGroup
	for i := range copies {
		all.Go(func() {
			for _, x := range sent {
				told[i] = append(told[i], ante.Admit(copies[i], x))
			}
		})
	}
	all.Wait()
	for i := range copies {
		if !slices.Equal(told[i], want) {
			t.Errorf("P18.1: beside others: %v, not %v", told[i], want)
		}
		wantState(t, "P18.1: a copy", copies[i], now)
	}
	wantState(t, "P18.1: beside its copies", first, was)
}
