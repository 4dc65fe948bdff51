package power_test

import (
	"maps"
	"math/rand"
	"slices"
	"testing"

	"glean/kv"
	"glean/power"
)

// P11.2: whoever is marked has a key of its own, with a value without bytes, and is told, rising, until the mark is taken away.
func TestBond(t *testing.T) {
	s, b := kv.New(), newBook()
	for _, v := range slices.Backward(numbers()) {
		power.Bond(s, v, false)
		wantBook(t, "P11.2: taken away, and never laid", s, b)
		power.Bond(s, v, true)
		b.bond(v, true)
		wantBook(t, "P11.2: marked", s, b)
		power.Bond(s, v, true)
		wantBook(t, "P11.2: marked twice", s, b)
	}
	for _, v := range numbers() {
		power.Bond(s, v, false)
		b.bond(v, false)
		wantBook(t, "P11.2: taken away", s, b)
		power.Bond(s, v, false)
		wantBook(t, "P11.2: taken away twice", s, b)
	}
}

// P11.2: as many as there are, are told, on however many pages they lie.
func TestManyBonded(t *testing.T) {
	s, b := kv.New(), newBook()
	for v := range uint64(300) {
		power.Bond(s, v*977%300, true)
		b.bond(v*977%300, true)
	}
	wantBook(t, "P11.2: many", s, b)
}

// P11.1, P11.2: the index and the marks don't touch one another.
func TestIndexAndMarksApart(t *testing.T) {
	s, b := kv.New(), newBook()
	power.Put(s, 16, 5)
	b.seats[seat{16, 5}] = true
	power.Bond(s, 17, true)
	b.bond(17, true)
	wantBook(t, "one of each", s, b)
	power.Drop(s, 17, 5)
	power.Bond(s, 16, false)
	wantBook(t, "what the other one has", s, b)
}

// wantTurns fails unless Turns tells these.
func wantTurns(t *testing.T, was, now, went, came []uint64) {
	t.Helper()
	gone, come := power.Turns(was, now)
	if !slices.Equal(gone, went) || !slices.Equal(come, came) {
		t.Fatalf("P11.3: Turns(%v, %v): %v, %v, not %v, %v", was, now, gone, come, went, came)
	}
}

// P11.3: who is in one list alone is told, rising, once; the lists may be in any order, with some more than once, or empty.
func TestTurns(t *testing.T) {
	type list = []uint64
	for _, c := range []struct{ was, now, went, came list }{
		{nil, nil, nil, nil},
		{list{}, list{}, nil, nil},
		{nil, list{}, nil, nil},
		{list{3, 1, 2}, nil, list{1, 2, 3}, nil},
		{nil, list{3, 1, 2}, nil, list{1, 2, 3}},
		{list{2, 2, 1, 2, 1}, nil, list{1, 2}, nil},
		{nil, list{2, 2, 1, 2, 1}, nil, list{1, 2}},
		{list{1, 2, 3}, list{3, 2, 1}, nil, nil},
		{list{1, 1, 2}, list{2, 1, 2}, nil, nil},
		{list{9, 1, 2, 1}, list{3, 2, 3, 0}, list{1, 9}, list{0, 3}},
		{list{0}, nil, list{0}, nil},
		{nil, list{0}, nil, list{0}},
		{list{0, top}, list{top}, list{0}, nil},
		{list{top, 1 << 63, 1, 0}, list{1<<63 - 1, top - 1}, list{0, 1, 1 << 63, top}, list{1<<63 - 1, top - 1}},
	} {
		wantTurns(t, c.was, c.now, c.went, c.came)
		wantTurns(t, c.now, c.was, c.came, c.went)
	}
}

// without tells, in the plainest way, who is in x and not in y, rising, each once.
func without(x, y []uint64) []uint64 {
	left := map[uint64]bool{}
	for _, v := range x {
		if !slices.Contains(y, v) {
			left[v] = true
		}
	}
	return slices.Sorted(maps.Keys(left))
}

// drawnList draws a list; many of its numbers are the same.
func drawnList(r *rand.Rand) []uint64 {
	list := make([]uint64, r.Intn(60))
	spread := 1 + r.Intn(100)
	for i := range list {
		list[i] = uint64(r.Intn(spread)) << r.Intn(64)
	}
	return list
}

// P11.3: the same, whatever lists are drawn, and asked again.
func TestDrawnTurns(t *testing.T) {
	r := rand.New(rand.NewSource(113))
	for range 3000 {
		was, now := drawnList(r), drawnList(r)
		for range 2 {
			wantTurns(t, was, now, without(was, now), without(now, was))
		}
		wantTurns(t, was, was, nil, nil)
	}
}
