package ledger_test

import (
	"math/big"
	"math/rand"
	"testing"

	"glean/api"
	"glean/ledger"
)

// ratio tells a Rat as another arithmetic has it.
func ratio(a api.Rat) *big.Rat { return new(big.Rat).SetFrac(value(a.Num), value(a.Den)) }

// grown makes a ledger that was told much, by a seed.
func grown(seed int64) *ledger.Ledger {
	r := rand.New(rand.NewSource(seed))
	var all deeds
	for range 40 {
		all = append(all, drawn(r))
	}
	return all.told()
}

// row tells one thing of each delegator, by another arithmetic.
func row(val uint64, of func(val, del uint64) api.Rat) []*big.Rat {
	var l []*big.Rat
	for del := range uint64(people) {
		l = append(l, ratio(of(val, del)))
	}
	return l
}

// wantRow fails unless one thing of each delegator is that.
func wantRow(t *testing.T, what string, val uint64, of func(val, del uint64) api.Rat, want []*big.Rat) {
	t.Helper()
	for del, x := range want {
		wantRat(t, what, of(val, uint64(del)), x)
	}
}

// wantOthers fails unless all other validators' stakes, and what is owed to them, are as in a ledger that wasn't told the latest.
func wantOthers(t *testing.T, what string, val uint64, l, before *ledger.Ledger) {
	t.Helper()
	for other := range uint64(people) {
		if other != val {
			wantRow(t, what+": another validator's", other, l.Stake, row(other, before.Stake))
			wantRow(t, what+": owed to another's", other, l.Owed, row(other, before.Owed))
		}
	}
}

// P24.5: what Give gives is r times Stakes by tokens, and the stakes stay.
func TestGiveIsExact(t *testing.T) {
	for seed := range int64(150) {
		r := rand.New(rand.NewSource(1000 + seed))
		l, before := grown(seed), grown(seed)
		val, reward, tokens := uint64(r.Intn(people)), drawnDec(r), drawnCoins(r)
		l.Give(val, reward, tokens)
		given := by(new(big.Rat).Mul(decValue(reward), ratio(before.Stakes(val))), 1, tokens)
		wantRat(t, "P24.5: Owes", l.Owes(val), plus(ratio(before.Owes(val)), given))
		wantRow(t, "P24.5: stakes", val, l.Stake, row(val, before.Stake))
		wantOthers(t, "P24.5", val, l, before)
	}
}

// P24.5: a cut keeps the stakes' proportions and all that is owed.
func TestCutKeepsProportions(t *testing.T) {
	for seed := range int64(150) {
		r := rand.New(rand.NewSource(2000 + seed))
		l, before := grown(seed), grown(seed)
		val, from, to := uint64(r.Intn(people)), 1+uint64(r.Intn(20)), 1+uint64(r.Intn(20))
		l.Cut(val, from, to)
		wantRat(t, "P24.5: Stakes", l.Stakes(val), by(ratio(before.Stakes(val)), to, from))
		wantRat(t, "P24.5: Owes", l.Owes(val), ratio(before.Owes(val)))
		wantRow(t, "P24.5: owed", val, l.Owed, row(val, before.Owed))
		wantOthers(t, "P24.5", val, l, before)
		for one := range uint64(people) {
			for two := range uint64(people) {
				x := new(big.Rat).Mul(ratio(l.Stake(val, one)), ratio(before.Stake(val, two)))
				y := new(big.Rat).Mul(ratio(l.Stake(val, two)), ratio(before.Stake(val, one)))
				if x.Cmp(y) != 0 {
					t.Fatalf("P24.5: the stakes of %d and %d aren't as before", one, two)
				}
			}
		}
		l.Cut(val, to, from)
		wantRow(t, "P24.5: and back", val, l.Stake, row(val, before.Stake))
	}
}

// P24.6: Owes falls by what Settle tells, and what Drop takes; Hold and Cut leave it.
func TestOwesFallsBySettleAndDrop(t *testing.T) {
	for seed := range int64(60) {
		r := rand.New(rand.NewSource(3000 + seed))
		l := grown(seed)
		for range 40 {
			d := drawn(r)
			before, owed := ratio(l.Owes(d.val)), ratio(l.Owed(d.val, d.del))
			switch d.kind {
			case settle:
				e, _, _ := l.Settle(d.val, d.del)
				wantRat(t, "P24.6: what Settle tells", e, owed)
				wantRat(t, "P24.6: Settle", l.Owes(d.val), less(before, ratio(e)))
			case drop:
				l.Drop(d.val, d.del)
				wantRat(t, "P24.6: Drop", l.Owes(d.val), less(before, owed))
			case give:
				d.tell(l)
				if ratio(l.Owes(d.val)).Cmp(before) < 0 {
					t.Fatal("P24.6: Owes falls by Give")
				}
			default:
				d.tell(l)
				wantRat(t, "P24.6: Hold, Cut", l.Owes(d.val), before)
			}
		}
	}
}

// What is given is settled, or dropped, or owed still: no gift is lost or made.
func TestNothingIsLost(t *testing.T) {
	for seed := range int64(20) {
		r := rand.New(rand.NewSource(4000 + seed))
		l := ledger.New()
		given, gone := new(big.Rat), new(big.Rat)
		for range 80 {
			d := drawn(r)
			d.val = 3
			switch d.kind {
			case settle:
				e, _, _ := l.Settle(3, d.del)
				gone.Add(gone, ratio(e))
				continue
			case drop:
				gone.Add(gone, ratio(l.Owed(3, d.del)))
			case give:
				given.Add(given, by(new(big.Rat).Mul(decValue(d.dec), ratio(l.Stakes(3))), 1, d.before))
			}
			d.tell(l)
		}
		wantRat(t, "P24.5, P24.6: owed still", l.Owes(3), less(given, gone))
	}
}
