package app_test

import (
	"math/rand"
	"slices"
	"sync"
	"testing"

	"glean/api"
	"glean/app"
)

// limbs tells each list of limbs of a report, the room behind it included.
func limbs(r api.Report) (all []api.Nat) {
	add := func(d api.Dec) { all = append(all, d.Raw[:cap(d.Raw)]) }
	payments := slices.Clone(r.Gave)
	for _, reply := range r.Replies {
		add(reply.Shares)
		payments = append(payments, reply.Paid...)
	}
	for _, p := range payments {
		add(p.Q)
		add(p.Left)
		add(p.Shares)
	}
	return all
}

// spoil writes over all lists of a report, and fails if two share memory.
func spoil(t *testing.T, r api.Report) {
	t.Helper()
	lists := limbs(r)
	for i, list := range lists {
		for j := range list {
			list[j] = uint64(i) + 1000
		}
	}
	for i, list := range lists {
		for _, limb := range list {
			if limb != uint64(i)+1000 {
				t.Fatal("two lists of one report share memory")
			}
		}
	}
	for _, ids := range [][]uint64{r.Went[:cap(r.Went)], r.Came[:cap(r.Came)]} {
		for i := range ids {
			ids[i] = 9
		}
	}
	for _, list := range [][]api.Paid{r.Gave[:cap(r.Gave)]} {
		clear(list)
	}
	clear(r.Matured[:cap(r.Matured)])
	for _, reply := range r.Replies {
		clear(reply.Paid[:cap(reply.Paid)])
	}
	clear(r.Replies[:cap(r.Replies)])
}

// DOC.md, what holds everywhere, 3: items are neither changed nor kept, the room behind them neither, and what is reported is new memory.
func TestMemory(t *testing.T) {
	r := rand.New(rand.NewSource(307))
	for range 40 {
		b := drawnRun(r)
		e := engine(t, b)
		for range 40 {
			items := drawnBlock(r, b)
			handed := make([][]byte, 0, len(items)+3)
			for _, item := range items {
				handed = append(handed, append(slices.Clone(item), 1, 2, 3)[:len(item)])
			}
			report, _ := e.Block(handed)
			wantReport(t, "P20.4: Block", report, b.block(items))
			for i, item := range handed {
				if !slices.Equal(item, items[i]) || !slices.Equal(item[len(item):][:3], []byte{1, 2, 3}) {
					t.Fatal("an item was changed")
				}
				clear(item[:cap(item)])
			}
			for _, item := range handed[:cap(handed)][len(handed):] {
				if item != nil {
					t.Fatal("the room behind the items was changed")
				}
			}
			spoil(t, report)
			wantBook(t, "behind a spoilt report", e.Store(), b)
		}
	}
}

// DOC.md, what holds everywhere, 9: engines don't touch one another: the same blocks have the same reports, Ops too, whatever is done with others between.
func TestEnginesApart(t *testing.T) {
	r := rand.New(rand.NewSource(308))
	for range 20 {
		b := drawnRun(r)
		first := engine(t, b)
		s := first.Store()
		second, _ := app.New(s)
		strange := b.copied()
		third, _ := app.New(s)
		for range 30 {
			items := drawnBlock(r, b)
			one := doBlock(t, first, b, items...)
			doBlock(t, third, strange, drawnBlock(r, strange)...)
			two, _ := second.Block(items)
			wantReport(t, "beside other engines", two, one)
			if one.Ops != two.Ops || first.Ops() != second.Ops() {
				t.Fatalf("beside other engines: %d operations, not %d", second.Ops(), first.Ops())
			}
			second, _ = app.New(second.Store()) // as an engine over its store goes on alike
			first, _ = app.New(first.Store())
		}
	}
}

// DOC.md, what holds everywhere, 9: what an engine answers doesn't hang on goroutines beside it.
func TestEnginesAtOnce(t *testing.T) {
	var all sync.WaitGroup
	for i := range 8 {
		r := rand.New(rand.NewSource(int64(310 + i/2)))
		b := drawnRun(r)
		e := engine(t, b)
		all.Go(func() {
			for range 40 {
				items := drawnBlock(r, b)
				report, err := e.Block(items)
				if want := b.block(items); err != api.OK || !sameReport(report, want) {
					t.Errorf("beside others: %+v, not %+v", report, want)
					return
				}
			}
		})
	}
	all.Wait()
}
