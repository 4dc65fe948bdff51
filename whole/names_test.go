package whole_test

import (
	"bytes"
	"math/rand"
	"slices"
	"testing"

	"glean/api"
	"glean/app"
	"glean/keys"
	"glean/kv"
	"glean/msg"
	"glean/rec"
)

// names: what is added to every user's id.
type names uint64

// of tells another one's id; the engine's own ones stay.
func (n names) of(id uint64) uint64 {
	if id < api.FirstUser {
		return id
	}
	return id + uint64(n)
}

// all tells other ones' ids.
func (n names) all(ids []uint64) []uint64 {
	var others []uint64
	for _, id := range ids {
		others = append(others, n.of(id))
	}
	return others
}

// genesis tells the same beginning of others.
func (n names) genesis(g api.Genesis) api.Genesis {
	other := api.Genesis{Params: g.Params}
	other.Params.Keeper = n.of(g.Params.Keeper)
	for _, a := range g.Accounts {
		other.Accounts = append(other.Accounts, api.Purse{Id: n.of(a.Id), Coins: a.Coins})
	}
	for _, v := range g.Vals {
		other.Vals = append(other.Vals, api.Founder{Op: n.of(v.Op), Rate: v.Rate, Tokens: v.Tokens})
	}
	return other
}

// items tells the same items of others; what is no item stays.
func (n names) items(items [][]byte) [][]byte {
	var others [][]byte
	for _, b := range items {
		i, e := msg.Decode(b)
		if e != api.OK {
			others = append(others, b)
			continue
		}
		m := &i.Tx.Msg
		i.Tx.Sender, i.Fault.Val, m.B = n.of(i.Tx.Sender), n.of(i.Fault.Val), n.of(m.B)
		if m.Kind != api.MsgCreate {
			m.A = n.of(m.A)
		}
		other, _ := msg.Encode(i)
		others = append(others, other)
	}
	return others
}

// paid tells the same payments to others.
func (n names) paid(all []api.Paid) []api.Paid {
	others := slices.Clone(all)
	for i := range others {
		others[i].Val, others[i].Del = n.of(others[i].Val), n.of(others[i].Del)
	}
	return others
}

// report tells the same report of others.
func (n names) report(x api.Report) api.Report {
	x.Gave, x.Went, x.Came, x.Replies = n.paid(x.Gave), n.all(x.Went), n.all(x.Came), slices.Clone(x.Replies)
	for i := range x.Replies {
		x.Replies[i].Paid = n.paid(x.Replies[i].Paid)
	}
	return x
}

// key tells the same key of others.
func (n names) key(k api.Key) api.Key {
	switch k.Kind {
	case api.KeyAccount, api.KeyVal, api.KeyHistory, api.KeyCut, api.KeyTomb, api.KeyBonded, api.KeySource:
		k.A = n.of(k.A)
	case api.KeyDelegation, api.KeyHolds, api.KeyCount:
		k.A, k.B = n.of(k.A), n.of(k.B)
	case api.KeyPower:
		k.B = n.of(k.B)
	}
	return k
}

// value tells the same record of others.
func (n names) value(kind int, b []byte) []byte {
	switch kind {
	case api.KeyParams:
		p, _ := rec.Params(b)
		p.Keeper = n.of(p.Keeper)
		return rec.PutParams(p)
	case api.KeyUnbonding:
		u, _ := rec.Unbonding(b)
		u.Del, u.Val = n.of(u.Del), n.of(u.Val)
		return rec.PutUnbonding(u)
	case api.KeyMove:
		m, _ := rec.Move(b)
		m.Del, m.Src, m.Dst = n.of(m.Del), n.of(m.Src), n.of(m.Dst)
		return rec.PutMove(m)
	}
	return b
}

// entries tells what lies in a store, of others.
func (n names) entries(t *testing.T, s *kv.Store) []api.Pair {
	t.Helper()
	var all []api.Pair
	for _, p := range s.Dump() {
		k, e := keys.Read(p.Key)
		must(t, k, e)
		all = append(all, api.Pair{Key: keyBytes(t, n.key(k)), Value: n.value(k.Kind, p.Value)})
	}
	slices.SortFunc(all, func(x, y api.Pair) int { return bytes.Compare(x.Key, y.Key) })
	return all
}

// P30.14: if k is added to every user's id, it is added in reports and stores, and nothing else is another one.
func TestNames(t *testing.T) {
	r := rand.New(rand.NewSource(3014))
	greatest := slices.Max(users())
	for i := range 40 {
		x := drawnRun(t, r, 25)
		n := names([]uint64{1, 239, 1 << 20, 1 << 63, top - greatest}[i%5])
		other := begun(t, laid(n.genesis(x.g)))
		through(t, x, func(height int, e *app.Engine, report api.Report) {
			wantReport(t, "P30.14", do(t, other, n.items(x.blocks[height-1])), n.report(report))
			if got := other.Store().Dump(); !slices.EqualFunc(got, n.entries(t, e.Store()), samePair) {
				t.Fatalf("P30.14: %d more: %x", n, got)
			}
		})
	}
}
