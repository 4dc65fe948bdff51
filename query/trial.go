package query

import (
	"sync"

	"glean/api"
	"glean/dist"
	"glean/kv"
)

// trial: a state on which payments are tried, one at a time, and taken back: so they are reckoned by dist itself, and without a copy for each.
type trial struct {
	lock  sync.Mutex
	store *kv.Store
}

// claim tells what a delegation would be paid now, and whether it is there.
func (t *trial) claim(val, del uint64) (api.Answer, bool) {
	t.lock.Lock()
	defer t.lock.Unlock()
	t.store.Begin()
	defer t.store.Rollback()
	paid, e := dist.Withdraw(t.store, val, del)
	return api.Answer{N: []uint64{paid.W}, D: []api.Dec{paid.Q}}, e == api.OK
}
