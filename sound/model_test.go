package sound_test

import (
	"cmp"
	"encoding/binary"
	"math/big"
	"slices"

	"glean/api"
)

type (
	// two: both numbers of a key.
	two struct{ a, b uint64 }
	// val, del, past, unbonding, move: records, as the model has them.
	val struct {
		rate, tokens                     uint64
		shares                           *big.Int
		jailed                           bool
		until                            uint64
		bonded                           bool
		period                           uint64
		current, outstanding, commission *big.Int
	}
	del struct {
		shares *big.Int
		period uint64
		stake  *big.Int
	}
	past struct {
		ratio *big.Int
		refs  uint64
	}
)

// model: a state as another reader has it: by none of the project's calls.
type model struct {
	params, chain [][]uint64 // none, or one
	pool          *big.Int
	accounts      map[uint64][]uint64 // coins, sequence
	vals          map[uint64]val
	dels          map[two]del
	pasts         map[two]past
	cuts          map[two][]uint64 // before, after
	tombs         map[uint64]uint64
	index, holds  map[two]int
	bonded        map[uint64]int
	unbondings    map[uint64][]uint64 // del, val, height, due, initial, balance
	moves         map[uint64][]uint64 // del, src, dst, height, due, initial
	due, source   map[two]uint64
	counts        map[two]uint64
}

func newModel() *model {
	return &model{
		pool: new(big.Int), accounts: map[uint64][]uint64{}, vals: map[uint64]val{}, dels: map[two]del{}, pasts: map[two]past{}, cuts: map[two][]uint64{},
		tombs: map[uint64]uint64{}, index: map[two]int{}, holds: map[two]int{}, bonded: map[uint64]int{}, unbondings: map[uint64][]uint64{}, moves: map[uint64][]uint64{},
		due: map[two]uint64{}, source: map[two]uint64{}, counts: map[two]uint64{},
	}
}

// tape: bytes that are read from their beginning on; bad: whether they were other ones than were asked for.
type tape struct {
	left []byte
	bad  bool
}

func (b *tape) take(n int) []byte {
	if b.bad || len(b.left) < n {
		b.bad = true
		return make([]byte, n)
	}
	first := b.left[:n]
	b.left = b.left[n:]
	return first
}

func (b *tape) number() uint64 { return binary.BigEndian.Uint64(b.take(8)) }

func (b *tape) numbers(n int) []uint64 {
	all := make([]uint64, n)
	for i := range all {
		all[i] = b.number()
	}
	return all
}

func (b *tape) truth() bool {
	x := b.take(1)[0]
	b.bad = b.bad || x > 1
	return x == 1
}

func (b *tape) decimal() *big.Int {
	digits := b.take(int(b.take(1)[0]))
	b.bad = b.bad || len(digits) > 0 && digits[0] == 0
	return new(big.Int).SetBytes(digits)
}

func (b *tape) done() bool { return !b.bad && len(b.left) == 0 }

// read tells the model of what lies in a store, and whether rule 1 holds.
func read(pairs []api.Pair) (*model, bool) {
	m := newModel()
	for _, p := range pairs {
		k, v := &tape{left: p.Key}, &tape{left: p.Value}
		if !m.entry(k, v) || !k.done() || !v.done() {
			return nil, false
		}
	}
	return m, len(m.params) == 1 && len(m.chain) == 1
}

// entry reads a key and what lies there, and tells whether there is such a key, and such a number there.
func (m *model) entry(k, v *tape) bool {
	mark := k.take(1)[0]
	ok := true
	switch mark {
	case 'p':
		m.params = append(m.params, v.numbers(10))
	case 'c':
		m.chain = append(m.chain, v.numbers(2))
	case 'm':
		m.pool = v.decimal()
		ok = m.pool.Sign() > 0
	case 'a':
		m.accounts[k.number()] = v.numbers(2)
	case 'v':
		ok = m.ofVal(k.number(), k.take(1)[0], k, v)
	case 't':
		m.tombs[k.number()] = v.number()
	case 'i':
		m.index[two{top - k.number(), k.number()}] = 1
	case 'b':
		m.bonded[k.number()] = 1
	case 'u':
		m.unbondings[k.number()] = v.numbers(6)
	case 'r':
		m.moves[k.number()] = v.numbers(6)
		v.decimal()
	case 'q', 'e', 'k':
		ok = m.number(mark, two{k.number(), k.number()}, v.number())
	case 'n':
		m.holds[two{k.number(), k.number()}] = 1
	default:
		return false
	}
	return ok
}

// number takes a number that lies under a key of two numbers.
func (m *model) number(mark byte, k two, n uint64) bool {
	switch mark {
	case 'q':
		m.due[k] = n
	case 'e':
		m.source[k] = n
	default:
		m.counts[k] = n
		return true
	}
	return n == 12 || n == 13
}

// ofVal reads what lies of a validator.
func (m *model) ofVal(id uint64, mark byte, k, v *tape) bool {
	switch mark {
	case '0':
		m.vals[id] = val{
			v.number(), v.number(), v.decimal(), v.truth(), v.number(), v.truth(), v.number(), v.decimal(), v.decimal(), v.decimal(),
		}
	case 'd':
		m.dels[two{id, k.number()}] = del{v.decimal(), v.number(), v.decimal()}
	case 'h':
		m.pasts[two{id, k.number()}] = past{v.decimal(), v.number()}
	case 's':
		m.cuts[two{id, k.number()}] = v.numbers(2)
	default:
		return false
	}
	return true
}

// brokenRule tells which rule a state breaks first, as the chapter says it.
func brokenRule(pairs []api.Pair) int {
	m, ok := read(pairs)
	if !ok {
		return 1
	}
	for i, holds := range []func() bool{m.rule2, m.rule3, m.rule4, m.rule5, m.rule6, m.rule7, m.rule8, m.rule9, m.rule10, m.rule11} {
		if !holds() {
			return i + 2
		}
	}
	return 0
}

// paramsMayBe tells P19.1 of params in their order: each one's least and most.
func paramsMayBe(p []uint64) bool {
	bounds := [][2]uint64{{1, 64}, {1, 100000}, {1, 16}, {0, 10000}, {0, 10000}, {0, 10000}, {0, 100000}, {0, 100000}, {0, 1000000000}, {16, top}}
	for i, b := range bounds {
		if p[i] < b[0] || p[i] > b[1] {
			return false
		}
	}
	return true
}

func (m *model) rule2() bool { return paramsMayBe(m.params[0]) }

func (m *model) rule3() bool {
	all := new(big.Int)
	for id, a := range m.accounts {
		if id == 0 || id > 4 && id < 16 || a[0] == 0 && a[1] == 0 {
			return false
		}
		all.Add(all, whole(a[0]))
	}
	return all.Cmp(whole(supply)) <= 0
}

func (m *model) rule4() bool {
	if m.chain[0][0] > most || m.chain[0][1] > most {
		return false
	}
	limit := new(big.Int).Exp(big.NewInt(10), big.NewInt(90), nil)
	for id, v := range m.vals {
		_, tomb := m.tombs[id]
		if id < 16 || v.rate > 10000 || v.period < 2 || v.period > most || v.shares.Sign() == 0 || v.shares.Cmp(limit) > 0 ||
			!v.jailed && v.until != 0 || tomb && !v.jailed {
			return false
		}
		left := new(big.Int).Set(v.shares)
		for p, d := range m.dels {
			if p.a == id {
				left.Sub(left, d.shares)
			}
		}
		if left.Sign() != 0 {
			return false
		}
	}
	for p, d := range m.dels {
		if p.b < 16 || d.shares.Sign() == 0 {
			return false
		}
	}
	return ofVals(m, m.dels) && ofVals(m, m.pasts) && ofVals(m, m.cuts)
}

// ofVals tells whether all things of validators are of some that there are.
func ofVals[T any](m *model, all map[two]T) bool {
	for p := range all {
		if _, there := m.vals[p.a]; !there {
			return false
		}
	}
	return true
}

func (m *model) rule5() bool {
	for p := range m.dels {
		if m.holds[two{p.b, p.a}] == 0 {
			return false
		}
	}
	return len(m.holds) == len(m.dels)
}

func (m *model) rule6() bool {
	var ranks []two // of the index, by tokens
	for id, v := range m.vals {
		if !v.jailed && v.tokens > 0 {
			ranks = append(ranks, two{v.tokens, id})
		}
	}
	if len(ranks) != len(m.index) {
		return false
	}
	for _, p := range ranks {
		if m.index[p] == 0 {
			return false
		}
	}
	slices.SortFunc(ranks, func(x, y two) int { return cmp.Or(cmp.Compare(y.a, x.a), cmp.Compare(x.b, y.b)) })
	first := map[uint64]int{}
	for i, p := range ranks {
		if uint64(i) < m.params[0][0] {
			first[p.b] = 1
		}
	}
	if len(first) != len(m.bonded) {
		return false
	}
	for id, v := range m.vals {
		if v.bonded != (m.bonded[id] == 1) || v.bonded != (first[id] == 1) {
			return false
		}
	}
	return true
}

func (m *model) rule7() bool {
	limit := new(big.Int).Exp(big.NewInt(10), big.NewInt(96), nil)
	refs := map[two]uint64{}
	for id, v := range m.vals {
		refs[two{id, v.period - 1}]++
	}
	for p, d := range m.dels {
		refs[two{p.a, d.period}]++
	}
	for p := range m.cuts {
		refs[p]++
	}
	if len(refs) != len(m.pasts) {
		return false
	}
	for p, n := range refs {
		h, there := m.pasts[p]
		if !there || h.refs != n || p.b > m.vals[p.a].period-1 || h.ratio.Cmp(limit) > 0 {
			return false
		}
		for q, other := range m.pasts {
			if q.a == p.a && q.b < p.b && other.ratio.Cmp(h.ratio) > 0 {
				return false
			}
		}
	}
	return true
}

func (m *model) rule8() bool {
	for _, c := range m.cuts {
		if c[1] >= c[0] || c[0] > supply {
			return false
		}
	}
	return true
}

func (m *model) rule9() bool {
	scale := new(big.Int).Exp(big.NewInt(10), big.NewInt(36), nil)
	for id, v := range m.vals {
		left := new(big.Int).Sub(v.outstanding, v.commission)
		left.Sub(left, v.current).Mul(left, scale)
		for p, d := range m.dels {
			if p.a != id {
				continue
			}
			claim, stake := m.claim(id, v, d)
			worth := new(big.Int).Mul(d.shares, new(big.Int).Mul(whole(v.tokens), scale))
			if stake.Cmp(worth.Quo(worth, v.shares)) > 0 {
				return false
			}
			left.Sub(left, claim)
		}
		if left.Sign() < 0 {
			return false
		}
	}
	return true
}

// claim tells a delegation's exact claim, with 72 places, and its stake at the end.
func (m *model) claim(id uint64, v val, d del) (claim, stake *big.Int) {
	var along []uint64
	for p := range m.cuts {
		if p.a == id && p.b > d.period {
			along = append(along, p.b)
		}
	}
	slices.Sort(along)
	claim, stake = new(big.Int), new(big.Int).Set(d.stake)
	from := d.period
	earn := func(to uint64) {
		rise := new(big.Int).Sub(m.pasts[two{id, to}].ratio, m.pasts[two{id, from}].ratio)
		claim.Add(claim, rise.Mul(rise, stake))
		from = to
	}
	for _, p := range along {
		earn(p)
		c := m.cuts[two{id, p}]
		stake.Mul(stake, whole(c[1])).Quo(stake, whole(c[0]))
	}
	earn(v.period - 1)
	return claim, stake
}

func (m *model) rule10() bool {
	tied, free, shared := new(big.Int), new(big.Int), new(big.Int).Set(m.pool)
	for _, v := range m.vals {
		if v.bonded {
			tied.Add(tied, whole(v.tokens))
		} else {
			free.Add(free, whole(v.tokens))
		}
		shared.Add(shared, v.outstanding)
	}
	for _, u := range m.unbondings {
		free.Add(free, whole(u[5]))
	}
	scale := new(big.Int).Exp(big.NewInt(10), big.NewInt(36), nil)
	return m.coins(2).Cmp(tied) == 0 && m.coins(3).Cmp(free) == 0 && new(big.Int).Mul(m.coins(4), scale).Cmp(shared) == 0
}

// coins tells an account's coins.
func (m *model) coins(id uint64) *big.Int {
	if a, there := m.accounts[id]; there {
		return whole(a[0])
	}
	return new(big.Int)
}

func (m *model) rule11() bool {
	due, source, counts := map[two]uint64{}, map[two]uint64{}, map[two]uint64{}
	height, next := m.chain[0][0], m.chain[0][1]
	add := func(id, kind, del, from, began, end, initial uint64) bool {
		due[two{end, id}], source[two{from, id}] = kind, kind
		counts[two{del, from}]++
		return id < next && del >= 16 && from >= 16 && began <= height && end > height && end > began && initial > 0 && initial <= supply
	}
	for id, u := range m.unbondings {
		if _, both := m.moves[id]; both || !add(id, 12, u[0], u[1], u[2], u[3], u[4]) || u[5] > u[4] {
			return false
		}
	}
	for id, x := range m.moves {
		if !add(id, 13, x[0], x[1], x[3], x[4], x[5]) || x[2] < 16 || x[1] == x[2] {
			return false
		}
	}
	for _, n := range counts {
		if n > m.params[0][2] {
			return false
		}
	}
	return alike(due, m.due) && alike(source, m.source) && alike(counts, m.counts)
}

// alike tells whether two maps are the same.
func alike(x, y map[two]uint64) bool {
	for k, n := range x {
		if other, there := y[k]; !there || other != n {
			return false
		}
	}
	return len(x) == len(y)
}
