package whole_test

import (
	"math/rand"
	"slices"
	"testing"

	"glean/api"
	"glean/app"
	"glean/dist"
	"glean/query"
)

// sameAnswer tells whether two answers are.
func sameAnswer(x, y api.Answer) bool {
	return x.Err == y.Err && slices.Equal(x.N, y.N) && slices.EqualFunc(x.D, y.D, sameDec) && slices.Equal(x.Entries, y.Entries)
}

// drawnAsks draws as many questions as may be asked at once, at most.
func drawnAsks(r *rand.Rand) []api.Ask {
	var all []api.Ask
	for range r.Intn(api.MaxAsks + 1) {
		a := api.Ask{Kind: r.Intn(13), A: drawnUser(r), B: drawnUser(r)}
		switch {
		case r.Intn(20) == 0:
		case a.Kind == api.AskBonded || a.Kind == api.AskPool || a.Kind == api.AskChain:
			a.A, a.B = 0, 0
		case a.Kind == api.AskUnbonding || a.Kind == api.AskMove:
			a.A, a.B = uint64(r.Intn(30)), 0
		case a.Kind != api.AskDelegation && a.Kind != api.AskClaim:
			a.B = 0
		}
		all = append(all, a)
	}
	return all
}

// P30.10: behind each block, whoever asks.
func TestAsked(t *testing.T) {
	r := rand.New(rand.NewSource(3010))
	answered := map[int]int{}
	for range 15 {
		through(t, drawnRun(t, r, 20), func(_ int, e *app.Engine, _ api.Report) {
			v, s := query.New(e.Store()), e.Store()
			asks := drawnAsks(r)
			var want []api.Answer
			for _, a := range asks {
				one := v.One(a)
				want = append(want, one)
				if one.Err == api.OK {
					answered[a.Kind]++
				}
			}
			for workers := 1; workers <= api.MaxWorkers; workers++ {
				all, err := v.Many(asks, workers)
				if err != api.OK || !slices.EqualFunc(all, want, sameAnswer) {
					t.Fatalf("P30.10: by %d workers: %v, %+v, not %+v", workers, err, all, want)
				}
			}
			wantStore(t, "P30.10: what was asked", e.Store(), s)
		})
	}
	for kind := api.AskAccount; kind <= api.AskMove; kind++ {
		if answered[kind] < 10 {
			t.Errorf("P30.10: only %d answers of kind %d", answered[kind], kind)
		}
	}
}

// P30.10: a claim that is asked for is what a withdrawal from a copy pays, and what one by the next item pays, if nobody comes between.
func TestClaims(t *testing.T) {
	r := rand.New(rand.NewSource(3011))
	some := 0
	for range 30 {
		through(t, drawnRun(t, r, 20), func(_ int, e *app.Engine, _ api.Report) {
			v := query.New(e.Store())
			for _, val := range users() {
				for _, del := range users() {
					got := v.One(api.Ask{Kind: api.AskClaim, A: val, B: del})
					paid, err := dist.Withdraw(e.Store(), val, del)
					if err != api.OK {
						if got.Err != api.ErrQueryNone {
							t.Fatalf("P30.10: %+v where there is nothing", got)
						}
						continue
					}
					if got.Err != api.OK || len(got.N) != 1 || len(got.D) != 1 || got.N[0] != paid.W || !sameDec(got.D[0], paid.Q) {
						t.Fatalf("P30.10: %+v, but %+v is paid", got, paid)
					}
					some += int(min(paid.W, 1))
				}
			}
		})
	}
	if some < 200 {
		t.Errorf("P30.10: only %d claims of a coin or more", some)
	}
}
