package sound_test

import (
	"math/rand"
	"testing"

	"glean/api"
	"glean/kv"
	"glean/sound"
)

// fields tells the params' fields, in their order.
func fields(p *api.Params) []*uint64 {
	return []*uint64{&p.Max, &p.Unbond, &p.Entries, &p.Tax, &p.Double, &p.Down, &p.Jail, &p.Age, &p.Fee, &p.Keeper}
}

// P19.1: each one at its bounds, and one past them; P19.2: rule 2 is Params.
func TestParamsAtTheirBounds(t *testing.T) {
	for i, c := range []struct{ may, mayNot []uint64 }{
		{[]uint64{1, 2, 63, 64}, []uint64{0, 65, 1<<32 + 1, top}},                   // Max
		{[]uint64{1, 2, 99999, 100000}, []uint64{0, 100001, 1<<32 + 1, top}},        // Unbond
		{[]uint64{1, 2, 15, 16}, []uint64{0, 17, 1<<32 + 1, top}},                   // Entries
		{[]uint64{0, 1, 9999, 10000}, []uint64{10001, 1 << 32, top}},                // Tax
		{[]uint64{0, 1, 9999, 10000}, []uint64{10001, 1 << 32, top}},                // Double
		{[]uint64{0, 1, 9999, 10000}, []uint64{10001, 1 << 32, top}},                // Down
		{[]uint64{0, 1, 99999, 100000}, []uint64{100001, 1 << 32, top}},             // Jail
		{[]uint64{0, 1, 99999, 100000}, []uint64{100001, 1 << 32, top}},             // Age
		{[]uint64{0, 1, 999999999, 1000000000}, []uint64{1000000001, 1 << 32, top}}, // Fee
		{[]uint64{16, 17, 1 << 63, top}, []uint64{0, 1, 4, 5, 15}},                  // Keeper
	} {
		for _, n := range c.may {
			wantParams(t, i, n, true)
		}
		for _, n := range c.mayNot {
			wantParams(t, i, n, false)
		}
	}
	if sound.Params(api.Params{}) || sound.Params(api.Params{Max: top, Unbond: top, Entries: top, Tax: top, Double: top, Down: top, Jail: top, Age: top, Fee: top, Keeper: top}) {
		t.Error("P19.1: of zeros, or of the greatest ones")
	}
	if !sound.Params(api.Params{Max: 1, Unbond: 1, Entries: 1, Keeper: 16}) {
		t.Error("P19.1: of the least ones")
	}
}

// wantParams fails unless params whose i-th one is n may be, or not.
func wantParams(t *testing.T, i int, n uint64, want bool) {
	t.Helper()
	p := fit()
	*fields(&p)[i] = n
	if got := sound.Params(p); got != want {
		t.Errorf("P19.1: Params(%+v): %t", p, got)
	}
	s := kv.New()
	s.Set(at(api.KeyParams), spelt(p))
	s.Set(at(api.KeyChain), make([]byte, 16))
	wantRule(t, "params", s, map[bool]int{false: 2}[want])
}

// spelt tells the bytes of params.
func spelt(p api.Params) []byte {
	var b []byte
	for _, n := range fields(&p) {
		for shift := 56; shift >= 0; shift -= 8 {
			b = append(b, byte(*n>>shift))
		}
	}
	return b
}

// P19.1: whatever the params are.
func TestParamsDrawn(t *testing.T) {
	r := rand.New(rand.NewSource(191))
	told := map[bool]int{}
	for range 20000 {
		p := drawnParams(r)
		for range r.Intn(3) {
			x := fields(&p)[r.Intn(10)]
			*x = []uint64{0, 1, 15, 16, 17, 64, 65, 10000, 10001, 100000, 100001, 1000000000, 1000000001, top, r.Uint64() >> r.Intn(64)}[r.Intn(15)]
		}
		var list []uint64
		for _, n := range fields(&p) {
			list = append(list, *n)
		}
		got := sound.Params(p)
		if got != paramsMayBe(list) {
			t.Fatalf("P19.1: Params(%+v): %t", p, got)
		}
		told[got]++
	}
	if told[true] < 1000 || told[false] < 1000 {
		t.Errorf("P19.1: %v", told)
	}
}
