package genesis_test

import (
	"bytes"
	"encoding/binary"
	"math/big"
	"math/rand"
	"slices"
	"testing"

	"glean/api"
	"glean/genesis"
	"glean/kv"
)

const (
	top    = ^uint64(0)
	supply = 1_000_000_000_000_000_000
)

// numbers tells numbers at which a byte or its order could go wrong.
func numbers() []uint64 {
	return []uint64{0, 1, 2, 16, 127, 128, 255, 256, 258, 0x0102030405060708, 1 << 32, 1<<63 - 1, 1 << 63, top - 1, top}
}

// fieldsOf tells the places of the params, in the order in which package api names them.
func fieldsOf(p *api.Params) []*uint64 {
	return []*uint64{&p.Max, &p.Unbond, &p.Entries, &p.Tax, &p.Double, &p.Down, &p.Jail, &p.Age, &p.Fee, &p.Keeper}
}

// add lays numbers behind bytes, the highest byte of each first.
func add(b []byte, all ...uint64) []byte {
	for _, x := range all {
		b = binary.BigEndian.AppendUint64(b, x)
	}
	return b
}

// spelt tells the bytes of a genesis as the chapter says them, by none of the project's calls.
func spelt(g api.Genesis) []byte {
	b := []byte("GLN1")
	for _, x := range fieldsOf(&g.Params) {
		b = add(b, *x)
	}
	b = binary.BigEndian.AppendUint32(b, uint32(len(g.Accounts)))
	for _, p := range g.Accounts {
		b = add(b, p.Id, p.Coins)
	}
	b = binary.BigEndian.AppendUint32(b, uint32(len(g.Vals)))
	for _, f := range g.Vals {
		b = add(b, f.Op, f.Rate, f.Tokens)
	}
	return b
}

// meant tells the genesis of bytes, and whether they are one's within the limits, by none of the project's calls: it takes each number from its place, and spells what it found.
func meant(b []byte) (api.Genesis, bool) {
	padded := append(bytes.Clone(b), make([]byte, 1<<14)...)
	number := func(at int) uint64 { return binary.BigEndian.Uint64(padded[at:]) }
	var g api.Genesis
	for i, x := range fieldsOf(&g.Params) {
		*x = number(4 + 8*i)
	}
	accounts := binary.BigEndian.Uint32(padded[84:])
	if accounts > 256 {
		return api.Genesis{}, false
	}
	at := 88
	for range accounts {
		g.Accounts = append(g.Accounts, api.Purse{Id: number(at), Coins: number(at + 8)})
		at += 16
	}
	vals := binary.BigEndian.Uint32(padded[at:])
	if vals > 64 {
		return api.Genesis{}, false
	}
	at += 4
	for range vals {
		g.Vals = append(g.Vals, api.Founder{Op: number(at), Rate: number(at + 8), Tokens: number(at + 16)})
		at += 24
	}
	if !bytes.Equal(spelt(g), b) {
		return api.Genesis{}, false
	}
	return g, true
}

// same tells whether two are the same genesis; an empty list is none.
func same(x, y api.Genesis) bool {
	return x.Params == y.Params && slices.Equal(x.Accounts, y.Accounts) && slices.Equal(x.Vals, y.Vals)
}

// first makes the chapter's example.
func first() api.Genesis {
	return api.Genesis{
		Params:   api.Params{Max: 2, Unbond: 9, Entries: 3, Fee: 1, Keeper: 16},
		Accounts: []api.Purse{{Id: 16, Coins: 100}},
		Vals:     []api.Founder{{Op: 16, Rate: 500, Tokens: 10}},
	}
}

// drawn draws a genesis of any numbers, with at most so many accounts and validators.
func drawn(r *rand.Rand, accounts, vals int) api.Genesis {
	number := func() uint64 { return r.Uint64() >> r.Intn(65) }
	var g api.Genesis
	for _, x := range fieldsOf(&g.Params) {
		*x = number()
	}
	for range r.Intn(accounts + 1) {
		g.Accounts = append(g.Accounts, api.Purse{Id: number(), Coins: number()})
	}
	for range r.Intn(vals + 1) {
		g.Vals = append(g.Vals, api.Founder{Op: number(), Rate: number(), Tokens: number()})
	}
	return g
}

// many makes a genesis of so many accounts and validators, each with numbers of its own.
func many(accounts, vals int) api.Genesis {
	g := api.Genesis{Params: first().Params}
	for i := range accounts {
		g.Accounts = append(g.Accounts, api.Purse{Id: 16 + uint64(i), Coins: 1000 + uint64(i)})
	}
	for i := range vals {
		g.Vals = append(g.Vals, api.Founder{Op: 16 + uint64(i), Rate: uint64(i), Tokens: 1 + uint64(i)%7})
	}
	return g
}

// drawnChain draws a genesis that a chain can begin with.
func drawnChain(r *rand.Rand) api.Genesis {
	upTo := func(n int) uint64 { return uint64(r.Intn(n + 1)) }
	g := api.Genesis{Params: api.Params{
		Max: 1 + upTo(r.Intn(64)), Unbond: 1 + upTo(99999), Entries: 1 + upTo(15),
		Tax: upTo(10000), Double: upTo(10000), Down: upTo(10000),
		Jail: upTo(100000), Age: upTo(100000), Fee: upTo(1000000000), Keeper: 16 + r.Uint64()>>(r.Intn(60)+1),
	}}
	id, left, step := uint64(15), uint64(supply), r.Intn(50)
	for range r.Intn(1 << r.Intn(9)) {
		id += 1 + r.Uint64()>>(13+step)
		coins := min(1+r.Uint64()>>(4+r.Intn(60)), left)
		if coins == 0 {
			break
		}
		left -= coins
		g.Accounts = append(g.Accounts, api.Purse{Id: id, Coins: coins})
		if r.Intn(2) == 0 && len(g.Vals) < 64 {
			g.Vals = append(g.Vals, api.Founder{Op: id, Rate: upTo(10000), Tokens: 1 + r.Uint64()%min(coins, 1+upTo(9)+r.Uint64()>>r.Intn(64))})
		}
	}
	return g
}

// elected tells who is bonded: the first Max by their tokens, of as many the lesser one; by none of the project's calls.
func elected(g api.Genesis) map[uint64]bool {
	all := slices.Clone(g.Vals)
	slices.SortFunc(all, func(x, y api.Founder) int {
		if x.Tokens > y.Tokens || x.Tokens == y.Tokens && x.Op < y.Op {
			return -1
		}
		return 1
	})
	now := map[uint64]bool{}
	for i, f := range all {
		if uint64(i) < g.Params.Max {
			now[f.Op] = true
		}
	}
	return now
}

// whole tells the bytes of a Dec of so many coins.
func whole(coins uint64) []byte {
	raw := new(big.Int).Exp(big.NewInt(10), big.NewInt(36), nil)
	b := raw.Mul(raw, new(big.Int).SetUint64(coins)).Bytes()
	return append([]byte{byte(len(b))}, b...)
}

// laid tells all that must lie in the store of a genesis that a chain can begin with, byte by byte, by none of the project's calls.
func laid(g api.Genesis) []api.Pair {
	var all []api.Pair
	lay := func(key, value []byte) { all = append(all, api.Pair{Key: key, Value: value}) }
	var params []byte
	for _, x := range fieldsOf(&g.Params) {
		params = add(params, *x)
	}
	lay([]byte("p"), params)
	lay([]byte("c"), add(nil, 0, 1))
	purses := map[uint64]uint64{}
	for _, p := range g.Accounts {
		purses[p.Id] = p.Coins
	}
	now := elected(g)
	for _, f := range g.Vals {
		purses[f.Op] -= f.Tokens
		isBonded, house := byte(0), uint64(3)
		if now[f.Op] {
			isBonded, house = 1, 2
			lay(add([]byte("b"), f.Op), nil)
		}
		purses[house] += f.Tokens
		of := func(mark string, more ...uint64) []byte { return add(append(add([]byte("v"), f.Op), mark...), more...) }
		val := append(add(nil, f.Rate, f.Tokens), whole(f.Tokens)...)
		val = append(add(append(val, 0), 0), isBonded)
		lay(of("0"), append(add(val, 2), 0, 0, 0))
		lay(of("d", f.Op), append(add(whole(f.Tokens), 1), whole(f.Tokens)...))
		lay(of("h", 1), add([]byte{0}, 2)) // the period ahead, and the founder's own delegation
		lay(add([]byte("i"), top-f.Tokens, f.Op), nil)
		lay(add([]byte("n"), f.Op, f.Op), nil)
	}
	for id, coins := range purses {
		if coins > 0 {
			lay(add([]byte("a"), id), add(nil, coins, 0))
		}
	}
	slices.SortFunc(all, func(x, y api.Pair) int { return bytes.Compare(x.Key, y.Key) })
	return all
}

// samePair tells whether two entries of a store are.
func samePair(x, y api.Pair) bool {
	return bytes.Equal(x.Key, y.Key) && bytes.Equal(x.Value, y.Value)
}

// made makes the store of a genesis, and fails if it is refused.
func made(t *testing.T, g api.Genesis) *kv.Store {
	t.Helper()
	s, e := genesis.Make(spelt(g))
	if e != api.OK || s == nil {
		t.Fatalf("P21.3: Make of %+v: %v", g, e)
	}
	return s
}

// wantMade fails unless the store of a genesis holds what the chapter says, and nothing else.
func wantMade(t *testing.T, g api.Genesis) {
	t.Helper()
	if got, want := made(t, g).Dump(), laid(g); !slices.EqualFunc(got, want, samePair) {
		t.Fatalf("P21.3: Make of %+v: there lie %x, not %x", g, got, want)
	}
}

// wantFault fails unless Make answers that error of bytes, and nothing beside it.
func wantFault(t *testing.T, what string, b []byte, want api.Errno) {
	t.Helper()
	if s, e := genesis.Make(b); e != want || (s != nil) != (want == api.OK) {
		t.Errorf("P21.3: %s: %v, not %v", what, e, want)
	}
}

// wantDecode fails unless Decode tells of bytes, of at most MaxGenesis, what the chapter does; it tells whether they are a genesis.
func wantDecode(t *testing.T, b []byte) bool {
	t.Helper()
	want, ok := meant(b)
	got, e := genesis.Decode(b)
	if !same(got, want) || ok && e != api.OK || !ok && e != api.ErrGenForm {
		t.Fatalf("P21.2: Decode(% x): %+v, %v, not %+v, %t", b, got, e, want, ok)
	}
	return ok
}

// roomy tells the same list, with room behind it that isn't empty.
func roomy[T any](list []T, x T) []T {
	return append(slices.Clone(list), x, x, x, x, x, x, x, x)[:len(list)]
}

// spoil writes over a list, and over the room behind it.
func spoil[T any](list []T, x T) {
	list = list[:cap(list)]
	for i := range list {
		list[i] = x
	}
}
