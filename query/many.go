package query

import (
	"sync"
	"sync/atomic"

	"glean/api"
)

// askAll answers several questions, by so many workers at once.
func (v *View) askAll(l []api.Ask, workers int) []api.Answer {
	answers := make([]api.Answer, len(l))
	var taken atomic.Int64
	var all sync.WaitGroup
	all.Add(workers)
	for range workers {
		go func() {
			defer all.Done()
			v.work(l, answers, &taken)
		}()
	}
	all.Wait()
	return answers
}

// work answers one question after another, each one that no worker has taken yet, so that a worker whose questions are quick takes more of them.
func (v *View) work(l []api.Ask, answers []api.Answer, taken *atomic.Int64) {
	for {
		i := int(taken.Add(1)) - 1
		if i >= len(l) {
			return
		}
		answers[i] = v.One(l[i])
	}
}
