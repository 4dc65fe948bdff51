package app_test

import (
	"encoding/binary"
	"maps"
	"math/big"
	"slices"

	"glean/api"
)

// allocate does what dist.Allocate must.
func (b *book) allocate() (gave []api.Paid) {
	fees, all := b.purses[collector].Coins, new(big.Int)
	b.must(collector, shared, fees)
	for _, v := range b.vals {
		if v.Bonded {
			all.Add(all, whole(v.Tokens))
		}
	}
	left := coins(fees)
	rest := fall(left, low(left, whole(b.param().Tax), big.NewInt(10000)))
	for _, id := range slices.Sorted(maps.Keys(b.vals)) {
		if v := b.vals[id]; v.Bonded && fees > 0 && all.Sign() > 0 {
			r := low(rest, whole(v.Tokens), all)
			c := low(r, whole(v.Rate), big.NewInt(10000))
			v.Commission, v.Current = decOf(sum(value(v.Commission), c)), decOf(sum(value(v.Current), fall(r, c)))
			v.Outstanding = decOf(sum(value(v.Outstanding), r))
			b.vals[id], left = v, fall(left, r)
			gave = append(gave, api.Paid{Val: id, Q: decOf(fall(r, c))})
		}
	}
	b.pour(left)
	return gave
}

// withdraw does what dist.Withdraw must.
func (b *book) withdraw(val, del uint64) (api.Paid, api.Errno) {
	v, isVal := b.vals[val]
	d, isDelegation := b.dels[pair{val, del}]
	if !isVal || !isDelegation {
		return api.Paid{}, 140
	}
	v, paid := b.settle(val, v, del)
	return b.hold(val, v, del, value(d.Shares), paid), 0
}

// commission does what dist.Commission must.
func (b *book) commission(val uint64) (uint64, api.Errno) {
	v, there := b.vals[val]
	if !there {
		return 0, 140
	}
	n := new(big.Int).Quo(value(v.Commission), scale).Uint64()
	if n == 0 {
		return 0, 141
	}
	b.must(shared, val, n)
	v.Commission, v.Outstanding = decOf(fall(value(v.Commission), coins(n))), decOf(fall(value(v.Outstanding), coins(n)))
	b.vals[val] = v
	return n, 0
}

// fund does what dist.Fund must.
func (b *book) fund(id, n uint64) api.Errno {
	e := b.move(id, shared, n)
	if e == 0 {
		b.pour(coins(n))
	}
	return e
}

// payOut does what dist.Spend must.
func (b *book) payOut(to, n uint64) api.Errno {
	if b.pool.Cmp(coins(n)) < 0 {
		return 142
	}
	b.must(shared, to, n)
	b.pool = fall(b.pool, coins(n))
	return 0
}

// admit does what ante.Admit must.
func (b *book) admit(sender, seq, fee uint64) api.Errno {
	a := b.purses[sender]
	switch {
	case sender < 16:
		return 180
	case fee < b.param().Fee:
		return 181
	case fee > a.Coins:
		return 182
	case seq != a.Seq:
		return 183
	}
	b.must(sender, collector, fee)
	a = b.purses[sender]
	a.Seq++
	b.purses[sender] = a
	return 0
}

// fields: where the numbers of a message of each kind stand, of A, B, N.
func fields(kind byte) ([]int, bool) {
	all, is := map[byte][]int{
		1: {0, 2}, 2: {0, 2}, 3: {0, 2}, 4: {0, 2}, 5: {0, 1, 2}, 6: {0}, 7: {}, 8: {}, 9: {2}, 10: {0, 2},
	}[kind]
	return all, is
}

// numbersOf reads so many numbers, and nothing else, of bytes.
func numbersOf(raw []byte, n int) ([]uint64, bool) {
	if len(raw) != 8*n {
		return nil, false
	}
	all := make([]uint64, n)
	for i := range all {
		all[i] = binary.BigEndian.Uint64(raw[8*i:])
	}
	return all, true
}

// read: what a raw item says: a transaction, or a fault.
type read struct {
	tx, fault        bool
	kind             byte
	sender, seq, fee uint64
	a, b, n          uint64
	val, height      uint64
}

// readItem reads a raw item by none of the project's calls; what is none is neither of both.
func readItem(raw []byte) (i read) {
	if len(raw) == 18 && raw[0] == 0x46 {
		all, _ := numbersOf(raw[2:], 2)
		return read{fault: true, kind: raw[1], val: all[0], height: all[1]}
	}
	if len(raw) < 26 || raw[0] != 0x54 {
		return read{}
	}
	at, isKind := fields(raw[25])
	all, fits := numbersOf(raw[26:], len(at))
	if !isKind || !fits {
		return read{}
	}
	head, _ := numbersOf(raw[1:25], 3)
	i = read{tx: true, kind: raw[25], sender: head[0], seq: head[1], fee: head[2]}
	for j, n := range all {
		*[]*uint64{&i.a, &i.b, &i.n}[at[j]] = n
	}
	return i
}

// deliver does what Deliver must; the reply has no Ops.
func (b *book) deliver(raw []byte) api.Reply {
	if len(raw) > 1024 {
		return api.Reply{Err: 171}
	}
	i := readItem(raw)
	var reply api.Reply
	switch {
	case i.fault:
		reply.Paid, reply.N, reply.Err = b.fault(int(i.kind), i.val, i.height)
	case !i.tx:
		reply.Err = 170
	default:
		if e := b.admit(i.sender, i.seq, i.fee); e != 0 {
			return api.Reply{Err: e}
		}
		reply = b.message(i)
	}
	if reply.Err != 0 {
		return api.Reply{Err: reply.Err}
	}
	return reply
}

// message does what a message must; beside an error the reply may tell anything.
func (b *book) message(i read) (r api.Reply) {
	var paid api.Paid
	switch i.kind {
	case 1:
		r.Err = 202
		if i.a >= 16 {
			r.Err = b.move(i.sender, i.a, i.n)
		}
		return r
	case 2:
		r.Shares, r.Err = b.create(i.sender, i.a, i.n)
		paid = api.Paid{Val: i.sender, Del: i.sender, Left: r.Shares, Shares: r.Shares, Tokens: i.n}
	case 3:
		r.Shares, paid, r.Err = b.delegate(i.a, i.sender, i.n)
	case 4:
		r.N, paid, r.Err = b.undelegate(i.a, i.sender, i.n)
	case 5:
		r.N, r.Paid, r.Err = b.redelegate(i.a, i.b, i.sender, i.n)
		return r
	case 6:
		paid, r.Err = b.withdraw(i.a, i.sender)
	default:
		return b.plainMessage(i)
	}
	r.Paid = []api.Paid{paid}
	return r
}

// plainMessage does what a message must by which nobody is paid for shares.
func (b *book) plainMessage(i read) (r api.Reply) {
	switch {
	case i.kind == 7:
		r.N, r.Err = b.commission(i.sender)
	case i.kind == 8:
		r.Err = b.unjail(i.sender)
	case i.kind == 9:
		r.Err = b.fund(i.sender, i.n)
	case i.sender != b.param().Keeper:
		r.Err = 203
	case i.a < 16:
		r.Err = 202
	default:
		r.Err = b.payOut(i.a, i.n)
	}
	return r
}

// begin does what Begin must; the report has no Ops.
func (b *book) begin() api.Report {
	c := b.stand()
	c.Height++
	b.chain = []api.Chain{c}
	return api.Report{Height: c.Height, Gave: b.allocate()}
}

// finish does what End must.
func (b *book) finish() api.Report {
	r := api.Report{Height: b.stand().Height, Matured: b.mature()}
	r.Went, r.Came = b.elect()
	return r
}

// block does what Block must, of few enough items.
func (b *book) block(items [][]byte) api.Report {
	r := b.begin()
	for _, raw := range items {
		r.Replies = append(r.Replies, b.deliver(raw))
	}
	last := b.finish()
	r.Matured, r.Went, r.Came = last.Matured, last.Went, last.Came
	return r
}
