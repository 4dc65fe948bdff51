package ledger_test

import (
	"math/big"
	"math/rand"
	"testing"

	"glean/api"
	"glean/ledger"
)

// Kinds of deeds.
const (
	give = iota
	settle
	hold
	drop
	cut
)

// deed: something that a ledger was told.
type deed struct {
	kind          int
	val, del      uint64
	dec, shares   api.Dec
	before, after uint64
}

// deeds: all that a ledger was told. What it is to tell is reckoned from the first deed on, whenever it is asked for.
type deeds []deed

// tell tells a ledger of a deed.
func (d deed) tell(l *ledger.Ledger) {
	switch d.kind {
	case give:
		l.Give(d.val, d.dec, d.before)
	case settle:
		l.Settle(d.val, d.del)
	case hold:
		l.Hold(d.val, d.del, d.dec, d.shares, d.before)
	case drop:
		l.Drop(d.val, d.del)
	case cut:
		l.Cut(d.val, d.before, d.after)
	}
}

// told makes a ledger that was told all.
func (all deeds) told() *ledger.Ledger {
	l := ledger.New()
	for _, d := range all {
		d.tell(l)
	}
	return l
}

// by tells x times n by m, and 0 by 0.
func by(x *big.Rat, n, m uint64) *big.Rat {
	if m == 0 {
		return new(big.Rat)
	}
	return new(big.Rat).Mul(x, new(big.Rat).SetFrac(whole(n), whole(m)))
}

// since tells the place of the deed with which a stake began; none if it isn't there.
func (all deeds) since(val, del uint64) (int, bool) {
	first, there := 0, false
	for i, d := range all {
		if d.val != val || d.del != del {
			continue
		}
		if d.kind == hold && !there {
			first, there = i, true
		}
		if d.kind == drop {
			there = false
		}
	}
	return first, there
}

// worth tells what a stake is, at the end of the deeds: what it was held as last, cut since.
func (all deeds) worth(val, del uint64) *big.Rat {
	z := new(big.Rat)
	first, there := all.since(val, del)
	if !there {
		return z
	}
	for _, d := range all[first:] {
		switch {
		case d.val != val:
		case d.kind == cut:
			z = by(z, d.after, d.before)
		case d.kind == hold && d.del == del && value(d.shares.Raw).Sign() == 0:
			z = new(big.Rat)
		case d.kind == hold && d.del == del:
			z = by(new(big.Rat).Quo(decValue(d.dec), decValue(d.shares)), d.before, 1)
		}
	}
	return z
}

// open tells the deeds behind a stake's beginning, or behind its last Settle, and how many come ahead of them; none if it isn't there.
func (all deeds) open(val, del uint64) (deeds, int) {
	first, there := all.since(val, del)
	if !there {
		return nil, len(all)
	}
	for i := first; i < len(all); i++ {
		if d := all[i]; d.kind == settle && d.val == val && d.del == del {
			first = i
		}
	}
	return all[first+1:], first + 1
}

// owed tells what is owed to a stake: of each gift behind the beginning its part, the stake being what it was then.
func (all deeds) owed(val, del uint64) *big.Rat {
	z := new(big.Rat)
	rest, ahead := all.open(val, del)
	for i, d := range rest {
		if d.kind == give && d.val == val {
			z.Add(z, by(new(big.Rat).Mul(decValue(d.dec), all[:ahead+i].worth(val, del)), 1, d.before))
		}
	}
	return z
}

// counts tells how many periods will have been closed by a Settle, and how many cuts came; 0 of a stake that isn't there.
func (all deeds) counts(val, del uint64) (periods, cuts int) {
	rest, _ := all.open(val, del)
	if _, there := all.since(val, del); there {
		periods = 1
	}
	for _, d := range rest {
		switch {
		case d.val != val:
		case d.kind == cut:
			periods++
			cuts++
		case d.kind == settle:
			periods++
		}
	}
	return periods, cuts
}

// together adds up one thing of a validator's stakes.
func together(val uint64, of func(val, del uint64) *big.Rat) *big.Rat {
	z := new(big.Rat)
	for del := range uint64(people) {
		z.Add(z, of(val, del))
	}
	return z
}

// How many ids are drawn, from 0 on: so few that they meet often.
const people = 5

// drawnDec draws a Dec: none, a small one, one with 36 places, a whole one; some aren't normal.
func drawnDec(r *rand.Rand) api.Dec {
	var n *big.Int
	switch r.Intn(6) {
	case 0:
		n = new(big.Int)
	case 1:
		n = big.NewInt(int64(r.Intn(5)))
	case 2, 3:
		n = new(big.Int).Mul(scale, big.NewInt(int64(r.Intn(30))))
	default:
		n = new(big.Int).Rand(r, new(big.Int).Mul(scale, big.NewInt(1000)))
	}
	return api.Dec{Raw: append(natOf(n), make(api.Nat, r.Intn(3))...)}
}

// drawnCoins draws a number of coins: none, a few, any.
func drawnCoins(r *rand.Rand) uint64 {
	switch r.Intn(8) {
	case 0:
		return 0
	case 1:
		return r.Uint64()
	default:
		return uint64(r.Intn(20))
	}
}

// drawn draws a deed: gifts and holds come more often than others.
func drawn(r *rand.Rand) deed {
	kinds := []int{give, give, give, hold, hold, settle, cut, drop}
	return deed{
		kind: kinds[r.Intn(len(kinds))], val: uint64(r.Intn(people)), del: uint64(r.Intn(people)),
		dec: drawnDec(r), shares: drawnDec(r), before: drawnCoins(r), after: drawnCoins(r),
	}
}

// wantBook fails unless a ledger tells of everybody what the deeds do.
func wantBook(t *testing.T, all deeds, l *ledger.Ledger) {
	t.Helper()
	for val := range uint64(people) {
		for del := range uint64(people) {
			wantStake(t, "P24.3: drawn", l, val, del, all.worth(val, del), all.owed(val, del))
		}
		wantAll(t, "P24.3: drawn", l, val, together(val, all.worth), together(val, all.owed))
	}
}

// P24.1 to P24.3: whatever a ledger is told, it tells what is reckoned from the first deed on.
func TestDrawnDeeds(t *testing.T) {
	for seed := range int64(30) {
		r := rand.New(rand.NewSource(seed))
		var all deeds
		l := ledger.New()
		for range 60 {
			d := drawn(r)
			if d.kind == settle {
				periods, cuts := all.counts(d.val, d.del)
				wantSettled(t, "P24.2: drawn", l, d.val, d.del, all.owed(d.val, d.del), periods, cuts)
			} else {
				d.tell(l)
			}
			all = append(all, d)
		}
		wantBook(t, all, l)
	}
}

// A ledger that was told the same tells the same, to the limb, however its stakes lie.
func TestToldAlike(t *testing.T) {
	r := rand.New(rand.NewSource(5))
	var all deeds
	for range 300 {
		d := drawn(r)
		d.before, d.after = uint64(r.Intn(9)), uint64(r.Intn(9))
		all = append(all, d)
	}
	first := all.told()
	for range 10 {
		l := all.told()
		for val := range uint64(people) {
			if !sameRat(l.Stakes(val), first.Stakes(val)) || !sameRat(l.Owes(val), first.Owes(val)) {
				t.Fatal("DOC.md, 9: told the same, two ledgers tell another thing")
			}
		}
	}
}
