package app_test

import (
	"math/rand"

	"glean/api"
)

// users: who takes part in drawn runs.
func users() []uint64 { return []uint64{16, 17, 18, 19, 255, 256, top} }

func drawnUser(r *rand.Rand) uint64 { return users()[r.Intn(len(users()))] }

// drawnOf draws one of these numbers.
func drawnOf(r *rand.Rand, all ...uint64) uint64 { return all[r.Intn(len(all))] }

// drawnParams draws params that may be.
func drawnParams(r *rand.Rand) api.Params {
	parts := func() uint64 { return drawnOf(r, 0, 1, 500, 777, 2500, 3333, 5000, 9999, 10000) }
	return api.Params{
		Max: drawnOf(r, 1, 2, 3, 64), Unbond: drawnOf(r, 1, 2, 5, 20, 100000), Entries: drawnOf(r, 1, 3, 16), Tax: parts(), Double: parts(), Down: parts(),
		Jail: drawnOf(r, 0, 0, 1, 5, 100000), Age: drawnOf(r, 0, 1, 3, 9, 100000), Fee: drawnOf(r, 0, 1, 3, 100), Keeper: drawnOf(r, 16, 18, top),
	}
}

// drawnRun begins a run: whatever params, coins of few or of very many; nothing is bound yet.
func drawnRun(r *rand.Rand) *book {
	b := newBook()
	b.params = []api.Params{drawnParams(r)}
	b.chain = []api.Chain{{Height: uint64(r.Intn(4)), Next: 1 + uint64(r.Intn(3))}}
	for _, id := range users() {
		b.mint(id, uint64(r.Int63n(1<<(8+r.Intn(49)))))
	}
	return b
}

// drawnPair draws a validator and a delegator: often of a delegation that there is.
func drawnPair(r *rand.Rand, b *book) (val, del uint64) {
	var all []pair
	for _, val := range users() {
		for _, del := range users() {
			if _, there := b.dels[pair{val, del}]; there {
				all = append(all, pair{val, del})
			}
		}
	}
	if len(all) == 0 || r.Intn(5) == 0 {
		return drawnUser(r), drawnUser(r)
	}
	p := all[r.Intn(len(all))]
	return p.val, p.del
}

// drawnCoins draws how many coins are wished for: few ones often, all that there are by 0.
func drawnCoins(r *rand.Rand) uint64 {
	switch r.Intn(5) {
	case 0:
		return 0
	case 1:
		return uint64(r.Intn(4))
	case 2:
		return r.Uint64() >> r.Intn(64)
	}
	return uint64(r.Int63n(1 << (1 + r.Intn(20))))
}

// drawnItem draws an item for a state as the book has it: most ones can be done, if nothing ahead of them stands in the way.
func drawnItem(r *rand.Rand, b *book) []byte {
	switch r.Intn(20) {
	case 0:
		raw := make([]byte, r.Intn(60))
		r.Read(raw)
		return raw
	case 1, 2:
		now := b.stand().Height
		return fault(byte(drawnOf(r, double, down, down, down, down, 3)), drawnCulprit(r, b), now-min(now, uint64(r.Intn(4)))+uint64(r.Intn(5)/4))
	case 3:
		raw := drawnTx(r, b)
		raw[r.Intn(len(raw))] ^= 1 << r.Intn(8)
		return raw
	}
	return drawnTx(r, b)
}

// drawnTx draws a transaction.
func drawnTx(r *rand.Rand, b *book) []byte {
	val, sender := drawnPair(r, b)
	other, n := drawnUser(r), drawnCoins(r)
	if v := b.vals[val]; r.Intn(2) == 0 && v.Tokens > 0 {
		n = uint64(r.Int63n(int64(v.Tokens)))/8 + 1
	}
	kind := byte(1 + r.Intn(spend))
	if r.Intn(4) == 0 {
		kind = byte(drawnOf(r, create, redelegate))
	}
	if kind == unjail || kind == commission {
		sender = val
	}
	if kind == spend && r.Intn(3) > 0 {
		sender = b.param().Keeper
	}
	if kind == create {
		val, sender = uint64(r.Intn(6))*2001, other
	}
	if (kind == send || kind == spend) && r.Intn(4) == 0 {
		val = uint64(r.Intn(20))
	}
	at, _ := fields(kind)
	var uses []uint64
	for _, i := range at {
		uses = append(uses, []uint64{val, other, n}[i])
	}
	fee := b.param().Fee + drawnOf(r, 0, 0, 1, 10, 1000)
	if r.Intn(20) == 0 {
		fee, sender = fee/2, drawnOf(r, sender, 15)
	}
	return tx(sender, b.seq(sender)+uint64(r.Intn(12)/11), fee, kind, uses...)
}

// drawnCulprit draws a validator: often one that something has left.
func drawnCulprit(r *rand.Rand, b *book) uint64 {
	var all []uint64
	for _, id := range users() {
		if len(b.from(id)) > 0 {
			all = append(all, id)
		}
	}
	if len(all) == 0 || r.Intn(2) == 0 {
		val, _ := drawnPair(r, b)
		return val
	}
	return all[r.Intn(len(all))]
}

// drawnBlock draws items of a block, each for the state that the ones ahead of it leave.
func drawnBlock(r *rand.Rand, b *book) [][]byte {
	ahead := b.copied()
	ahead.begin()
	var items [][]byte
	for range r.Intn(9) {
		item := drawnItem(r, ahead)
		ahead.deliver(item)
		items = append(items, item)
	}
	return items
}
