package dist_test

import (
	"math/rand"
	"slices"
	"strings"
	"testing"

	"glean/api"
	"glean/dec"
	"glean/dist"
)

// two tells a book as the chapter's example has it: bonded validators of 1 and 2 tokens, of the rates 0 and 1000, a tax of 200, so many coins to share out.
func two(fees uint64) *book {
	b := newBook()
	b.params = []api.Params{{Tax: 200}}
	b.vals[16] = api.Validator{Tokens: 1, Shares: dec.Of(1), Bonded: true, Period: 1}
	b.vals[17] = api.Validator{Rate: 1000, Tokens: 2, Shares: dec.Of(2), Bonded: true, Period: 1}
	b.bonded[16], b.bonded[17] = true, true
	b.purses[collector] = api.Account{Coins: fees}
	return b
}

// shareOut does Allocate with a book and its store, and tells the answer.
func shareOut(t *testing.T, what string, b *book) []api.Paid {
	t.Helper()
	s := b.store()
	got, want := dist.Allocate(s), b.allocate()
	if !slices.EqualFunc(got, want, samePaid) {
		t.Fatalf("P14.3: %s: %v, not %v", what, got, want)
	}
	wantBook(t, "P14.3: "+what, s, b)
	return got
}

// P14.3: the chapter's example.
func TestAllocateExample(t *testing.T) {
	b := two(100)
	s := b.store()
	gave := dist.Allocate(s)
	thirds := "32." + strings.Repeat("6", 36)
	if len(gave) != 2 {
		t.Fatalf("P14.3: %v", gave)
	}
	wantPaid(t, "P14.3: the first one", gave[0], api.Paid{Val: 16, Q: parsed(t, thirds)})
	wantPaid(t, "P14.3: the second one", gave[1], api.Paid{Val: 17, Q: parsed(t, "58.8")})
	first, second := b.vals[16], b.vals[17]
	first.Current, first.Outstanding = parsed(t, thirds), parsed(t, thirds)
	second.Current, second.Commission = parsed(t, "58.8"), parsed(t, "6.5"+strings.Repeat("3", 35))
	second.Outstanding = parsed(t, "65."+strings.Repeat("3", 36))
	b.vals[16], b.vals[17] = first, second
	b.pool = value(parsed(t, "2."+hair[2:]))
	b.purses[collector], b.purses[shared] = api.Account{}, api.Account{Coins: 100}
	wantBook(t, "P14.3: the example", s, b)
	if gave := dist.Allocate(s); len(gave) != 0 {
		t.Errorf("P14.3: nothing is left to share out: %v", gave)
	}
	wantBook(t, "P14.3: once more", s, b)
}

// P14.3: without fees, or if Shared can't hold them, nothing changes.
func TestAllocateNothing(t *testing.T) {
	for _, x := range []struct {
		fees, shared uint64
		done         bool
	}{
		{0, 0, false}, {0, 5, false}, {0, supply, false},
		{1, supply, false}, {2, supply - 1, false}, {supply, 1, false},
		{1, supply - 1, true}, {2, supply - 2, true}, {supply, 0, true}, {1, 0, true},
	} {
		b := two(x.fees)
		b.purses[shared] = api.Account{Coins: x.shared, Seq: 3}
		b.pour(value(dec.Of(7)))
		was := b.copied()
		if gave := shareOut(t, "fees or none", b); (len(gave) == 2) != x.done {
			t.Errorf("P14.3: %v: %v", x, gave)
		}
		if !x.done {
			wantBook(t, "P14.3: nothing changes", was.store(), b)
		}
	}
}

// P14.3: if nobody is bonded, has a record or a token, all goes to the pool, and nobody is told of.
func TestAllocateToNobody(t *testing.T) {
	for _, what := range []string{"nobody is bonded", "no records", "no tokens", "nothing but coins"} {
		b := two(7)
		switch what {
		case "nobody is bonded":
			clear(b.bonded)
		case "no records":
			clear(b.vals)
		case "no tokens":
			b.vals[16], b.vals[17] = full(5, 0), full(6, 0)
		default:
			b = newBook()
			b.purses[collector] = api.Account{Coins: 7}
		}
		vals := b.copied().vals
		if gave := shareOut(t, what, b); len(gave) != 0 {
			t.Errorf("P14.3: %s: %v", what, gave)
		}
		wantDec(t, "P14.3: "+what, decOf(b.pool), dec.Of(7))
		for id, v := range vals {
			wantVal(t, "P14.3: "+what, b.vals[id], v)
		}
	}
}

// P14.3: what the tax takes; one above Parts takes all, and then each is given 0, and told of; without params there is none.
func TestTax(t *testing.T) {
	for _, x := range []struct {
		tax        uint64
		pool, each string
	}{
		{0, "0", "15"}, {1, "0.003", "14.9985"}, {200, "0.6", "14.7"}, {9999, "29.997", "0.0015"}, {10000, "30", "0"}, {10001, "30", "0"}, {top, "30", "0"},
	} {
		b := two(30)
		b.params[0].Tax = x.tax
		b.vals[16], b.vals[17] = full(0, 3), full(0, 3)
		for _, paid := range shareOut(t, "a tax", b) {
			wantDec(t, "P14.3: what each is given", paid.Q, parsed(t, x.each))
		}
		wantDec(t, "P14.3: what the pool gets", decOf(b.pool), parsed(t, x.pool))
		if len(b.allocate()) != 0 {
			t.Error("P14.3: something is left")
		}
	}
	b := two(30)
	b.params = nil
	shareOut(t, "no params", b)
	wantDec(t, "P14.3: without params", decOf(b.pool), api.Dec{})
}

// P14.3: who has a record is asked of the store, who is bonded of power: not of the record.
func TestWhoIsGiven(t *testing.T) {
	b := two(90)
	b.vals[18] = api.Validator{Tokens: 50, Shares: dec.Of(50), Bonded: true, Period: 1}
	b.vals[19] = api.Validator{Tokens: 0, Shares: dec.Of(50), Bonded: false, Period: 1}
	b.vals[20] = api.Validator{Tokens: 6, Shares: dec.Of(50), Jailed: true, Period: 1}
	b.bonded[19], b.bonded[20], b.bonded[21], b.bonded[0] = true, true, true, true
	var who []uint64
	for _, paid := range shareOut(t, "who is given", b) {
		who = append(who, paid.Val)
	}
	if !slices.Equal(who, []uint64{16, 17, 19, 20}) {
		t.Errorf("P14.3: %v are given", who)
	}
}

// P14.3: all tokens together may be above 2^64; what can't be shared out evenly goes to the pool.
func TestManyTokens(t *testing.T) {
	b := two(100)
	b.params = nil
	for _, id := range []uint64{16, 17, 18} {
		b.vals[id], b.bonded[id] = api.Validator{Tokens: top, Period: 1}, true
	}
	for _, paid := range shareOut(t, "three with all tokens", b) {
		wantDec(t, "P14.3: a third", paid.Q, parsed(t, "33."+strings.Repeat("3", 36)))
	}
	wantDec(t, "P14.3: what is left", decOf(b.pool), parsed(t, hair))
}

// P14.3: many validators, of whatever ids, are given rising; what each has already stays.
func TestManyValidators(t *testing.T) {
	r := rand.New(rand.NewSource(143))
	b := two(supply)
	for len(b.vals) < 150 {
		id := r.Uint64() >> r.Intn(60)
		b.vals[id], b.bonded[id] = full(uint64(r.Intn(10001)), r.Uint64()), true
	}
	gave := shareOut(t, "many validators", b)
	if len(gave) != 150 || !slices.IsSortedFunc(gave, func(x, y api.Paid) int { return slices.Compare([]uint64{x.Val}, []uint64{y.Val}) }) {
		t.Errorf("P14.3: %d are given: %v", len(gave), gave)
	}
}

// P14.3: whatever lies there, by another arithmetic.
func TestAllocateDrawn(t *testing.T) {
	r := rand.New(rand.NewSource(144))
	told := 0
	for range 1500 {
		b := drawnBook(r)
		if r.Intn(2) == 0 {
			b.purses[shared] = api.Account{Coins: drawnCoins(r) / 2}
		}
		told += len(shareOut(t, "whatever lies there", b))
	}
	if told < 1000 {
		t.Errorf("P14.3: only %d were given", told)
	}
}
