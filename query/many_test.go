package query_test

import (
	"bytes"
	"math"
	"math/rand"
	"runtime"
	"slices"
	"sync/atomic"
	"testing"

	"glean/api"
	"glean/query"
)

// P23.2: as many questions as may be, and one more; of none there is no answer.
func TestAtMostSoMany(t *testing.T) {
	s := plain(t)
	v := query.New(s)
	asks := drawnAsks(rand.New(rand.NewSource(236)), s, mostAsks+1)
	for workers := 1; workers <= mostWorkers; workers++ {
		wantMany(t, v, nil, workers)
		wantMany(t, v, []api.Ask{}, workers)
		for _, n := range []int{1, 2, workers, mostAsks - 1, mostAsks} {
			for i, got := range wantMany(t, v, asks[:n], workers) {
				wantAnswer(t, "P23.2: in their order", got, v.One(asks[i]))
			}
		}
	}
	for _, n := range []int{mostAsks + 1, mostAsks + 2, 10 * mostAsks} {
		wantNone(t, v, slices.Repeat(asks, 10)[:n], 1, 232)
	}
}

// P23.2: no number of workers; too many questions are told first.
func TestNoWorkers(t *testing.T) {
	s := plain(t)
	v := query.New(s)
	asks := drawnAsks(rand.New(rand.NewSource(237)), s, mostAsks+1)
	for _, workers := range []int{0, -1, mostWorkers + 1, 256, math.MaxInt, math.MinInt} {
		for _, n := range []int{0, 1, mostAsks} {
			wantNone(t, v, asks[:n], workers, 233)
		}
		wantNone(t, v, nil, workers, 233)
		wantNone(t, v, asks, workers, 232)
	}
}

// wantNone fails unless Many refuses questions, and answers nothing.
func wantNone(t *testing.T, v *query.View, l []api.Ask, workers int, want api.Errno) {
	t.Helper()
	if got, e := v.Many(l, workers); e != want || len(got) != 0 {
		t.Errorf("P23.2: Many of %d by %d: %d answers, %v, not %v", len(l), workers, len(got), e, want)
	}
}

// P23.2: an error of one question is its own answer's alone, wherever it stands.
func TestErrorsAmongMany(t *testing.T) {
	v := query.New(plain(t))
	asks := []api.Ask{{}, {Kind: askVal, A: 16}, {Kind: askVal, A: 17}, {Kind: askPool, A: 1}, {Kind: askChain}, {Kind: askMove, A: 1}}
	want := []api.Answer{{Err: 230}, answered(t, []uint64{1000, 45, 0, 0, 1, 5}, "45", "40.5", "61.5", "7.5"), {Err: 231}, {Err: 230}, answered(t, []uint64{5, 3}), {Err: 231}}
	for workers := 1; workers <= mostWorkers; workers++ {
		for i, got := range wantMany(t, v, asks, workers) {
			wantAnswer(t, "P23.2: among others", got, want[i])
		}
	}
}

// P23.2: so many goroutines ask at once, never more, and all of them have ended when Many answers.
func TestWorkersAtOnce(t *testing.T) {
	s := grown()
	v := query.New(s)
	asks := drawnAsks(rand.New(rand.NewSource(238)), s, mostAsks)
	for _, workers := range []int{1, 3, mostWorkers} {
		most := 0
		for range 300 {
			most = max(most, watched(t, func() { wantMany(t, v, asks, workers) }))
			if most >= workers {
				break
			}
		}
		// Where there is one processor, one that is quick may have ended before it is counted.
		if most > workers || most < workers/2 {
			t.Errorf("P23.2: %d goroutines asked at once, not %d", most, workers)
		}
	}
}

// working tells how many goroutines there are that package query has made.
func working() int {
	all := make([]byte, 1<<20)
	return bytes.Count(all[:runtime.Stack(all, true)], []byte("created by glean/query."))
}

// watched does something, and tells how many goroutines worked on it at once; it fails if one is left.
func watched(t *testing.T, do func()) int {
	t.Helper()
	var over atomic.Bool
	most, ended := 0, make(chan bool)
	go func() {
		defer close(ended)
		for !over.Load() {
			most = max(most, working())
			runtime.Gosched()
		}
	}()
	do()
	over.Store(true)
	<-ended
	// One that has told that it is done is there for a moment still.
	for range 10000 {
		if working() == 0 {
			return most
		}
		runtime.Gosched()
	}
	t.Fatalf("P23.2: %d goroutines are left", working())
	return most
}
