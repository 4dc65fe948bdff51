package audit_test

import (
	"math/rand"
	"slices"
	"sync"
	"testing"

	"glean/api"
	"glean/audit"
)

// limbs tells each list of limbs of what a block is answered, the room behind it included.
func limbs(r api.Report, audited []api.Audited) (all []api.Nat) {
	add := func(lists ...api.Nat) {
		for _, list := range lists {
			all = append(all, list[:cap(list)])
		}
	}
	payments := slices.Clone(r.Gave)
	for _, reply := range r.Replies {
		add(reply.Shares.Raw)
		payments = append(payments, reply.Paid...)
	}
	for _, p := range payments {
		add(p.Q.Raw, p.Left.Raw, p.Shares.Raw)
	}
	for _, x := range audited {
		add(x.Q.Raw, x.E.Num, x.E.Den)
	}
	return all
}

// spoilLimbs writes over lists, and fails if two of them share memory.
func spoilLimbs(t *testing.T, lists []api.Nat) {
	t.Helper()
	for i, list := range lists {
		for j := range list {
			list[j] = uint64(i) + 1000
		}
	}
	for i, list := range lists {
		for _, limb := range list {
			if limb != uint64(i)+1000 {
				t.Fatal("two lists of one answer share memory")
			}
		}
	}
}

// spoil writes over all that a block is answered.
func spoil(t *testing.T, r api.Report, audited []api.Audited) {
	t.Helper()
	spoilLimbs(t, limbs(r, audited))
	for _, ids := range [][]uint64{r.Went[:cap(r.Went)], r.Came[:cap(r.Came)]} {
		for i := range ids {
			ids[i] = 9
		}
	}
	for _, reply := range r.Replies {
		clear(reply.Paid[:cap(reply.Paid)])
	}
	clear(r.Gave[:cap(r.Gave)])
	clear(r.Matured[:cap(r.Matured)])
	clear(r.Replies[:cap(r.Replies)])
	clear(audited[:cap(audited)])
}

// roomy tells items with room behind each of them, and behind the list.
func roomy(items [][]byte) [][]byte {
	handed := make([][]byte, 0, len(items)+3)
	for _, item := range items {
		handed = append(handed, append(slices.Clone(item), 1, 2, 3)[:len(item)])
	}
	return handed
}

// wantHanded fails if items that were handed in, or the room behind them, were changed; then it writes over them.
func wantHanded(t *testing.T, handed, items [][]byte) {
	t.Helper()
	for i, item := range handed {
		if !slices.Equal(item, items[i]) || !slices.Equal(item[len(item):][:3], []byte{1, 2, 3}) {
			t.Fatal("an item was changed")
		}
		clear(item[:cap(item)])
	}
	for _, item := range handed[:cap(handed)][len(handed):] {
		if item != nil {
			t.Fatal("the room behind the items was changed")
		}
	}
	clear(handed)
}

// DOC.md, what holds everywhere, 3: what is handed in is neither changed nor kept, and what is answered is new memory.
func TestMemory(t *testing.T) {
	for seed := range int64(40) {
		r := rand.New(rand.NewSource(2600 + seed))
		g := drawnGenesis(r)
		begin := append(laid(g), 7, 7)
		b := newBeside(t, g)
		a, _ := audit.New(begin[:len(begin)-2])
		if !slices.Equal(begin, append(laid(g), 7, 7)) {
			t.Fatal("a beginning was changed")
		}
		clear(begin)
		for range 20 {
			items := drawnItems(r, b.engine.Store())
			handed := roomy(items)
			report, all, _ := a.Block(handed)
			want, meant := b.block(items)
			if !sameReport(report, want) {
				t.Fatalf("P25.5: %+v, not %+v", report, want)
			}
			wantAudited(t, "behind spoilt memory", all, meant...)
			wantHanded(t, handed, items)
			spoil(t, report, all)
			for _, id := range users() {
				wantOwes(t, "behind spoilt memory", a, id, b.owes(id))
				owed, _ := a.Owes(id)
				spoilLimbs(t, []api.Nat{owed.Num[:cap(owed.Num)], owed.Den[:cap(owed.Den)]})
			}
		}
	}
}

// DOC.md, what holds everywhere, 9: audits don't touch one another: whatever one of them is told between, the others go on alike; to ask changes nothing.
func TestAuditsApart(t *testing.T) {
	for seed := range int64(10) {
		r := rand.New(rand.NewSource(2700 + seed))
		g, strange := drawnGenesis(r), drawnGenesis(r)
		first, second, other := begun(t, g), begun(t, g), begun(t, strange)
		for range 20 {
			items := drawnItems(r, first.Store())
			others := drawnItems(r, other.Store())
			wantAlike(t, first, second, items)
			if _, _, e := other.Block(others); e != api.OK {
				t.Fatalf("P25.2: Block: %v", e)
			}
			first.Block(make([][]byte, api.MaxItems+1))
			for range r.Intn(3) {
				first.Owes(drawnUser(r))
				first.Store()
			}
		}
	}
}

// DOC.md, what holds everywhere, 9: what an audit answers doesn't hang on goroutines beside it.
func TestAuditsAtOnce(t *testing.T) {
	var all sync.WaitGroup
	for i := range 8 {
		r := rand.New(rand.NewSource(int64(2800 + i/2)))
		g := drawnGenesis(r)
		a, b := begun(t, g), newBeside(t, g)
		all.Go(func() {
			for range 25 {
				items := drawnItems(r, a.Store())
				report, audited, _ := a.Block(items)
				want, meant := b.block(items)
				if !sameReport(report, want) || !slices.EqualFunc(audited, meant, sameAudited) {
					t.Errorf("beside others: %+v, %v, not %+v, %v", report, audited, want, meant)
					return
				}
			}
		})
	}
	all.Wait()
}
