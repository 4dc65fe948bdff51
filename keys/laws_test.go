package keys_test

import (
	"bytes"
	"cmp"
	"math/rand"
	"slices"
	"testing"

	"glean/api"
	"glean/keys"
)

// P7.4: Read takes back what Make does, and Make what Read does.
func TestThereAndBack(t *testing.T) {
	r := rand.New(rand.NewSource(74))
	all := every()
	for range 20000 {
		all = append(all, drawn(r))
	}
	for _, k := range all {
		b := made(t, k)
		if got, e := keys.Read(b); e != api.OK || got != k {
			t.Fatalf("P7.4: Read(Make(%v)): %v, %v", k, got, e)
		}
	}
	for range 20000 {
		b := made(t, drawn(r))
		b[r.Intn(len(b))] = byte(r.Intn(256))
		if k, e := keys.Read(b); e == api.OK {
			if got := made(t, k); !bytes.Equal(got, b) {
				t.Fatalf("P7.4: Make(Read(% x)): % x", b, got)
			}
		}
	}
}

// P7.4: no key is another one's beginning, nor two keys the same.
func TestNoKeyIsTheBeginningOfAnother(t *testing.T) {
	all := every()
	slices.SortFunc(all, func(x, y api.Key) int { return bytes.Compare(made(t, x), made(t, y)) })
	for i, k := range all[1:] {
		if bytes.HasPrefix(made(t, k), made(t, all[i])) {
			t.Fatalf("P7.4: %v is the beginning of %v", all[i], k)
		}
	}
}

// inOrder tells how two keys of one kind stand to one another, by their numbers.
func inOrder(x, y api.Key) int {
	if x.Kind == api.KeyPower {
		return cmp.Or(cmp.Compare(y.A, x.A), cmp.Compare(x.B, y.B))
	}
	return cmp.Or(cmp.Compare(x.A, y.A), cmp.Compare(x.B, y.B))
}

// P7.4: keys of one kind stand in the order of A, then of B; of powers the greater one stands first.
func TestOrder(t *testing.T) {
	all := every()
	for _, x := range all {
		for _, y := range all {
			if x.Kind == y.Kind && bytes.Compare(made(t, x), made(t, y)) != inOrder(x, y) {
				t.Fatalf("P7.4: %v and %v don't stand in their order", x, y)
			}
		}
	}
	r := rand.New(rand.NewSource(75))
	for range 50000 {
		x, y := drawn(r), drawn(r)
		if r.Intn(2) == 0 {
			y = x
			if kinds()[y.Kind].numbers == 2 {
				y.B = r.Uint64() >> r.Intn(64)
			}
		}
		if x.Kind == y.Kind && bytes.Compare(made(t, x), made(t, y)) != inOrder(x, y) {
			t.Fatalf("P7.4: %v and %v don't stand in their order", x, y)
		}
	}
}

// P7.4: of a validator's keys its own comes first, then its delegations, histories and cuts.
func TestOrderWithinAValidator(t *testing.T) {
	for _, a := range numbers() {
		var last []byte
		for kind := api.KeyVal; kind <= api.KeyCut; kind++ {
			for _, b := range numbers() {
				if kind == api.KeyVal && b > 0 {
					continue
				}
				got := made(t, api.Key{Kind: kind, A: a, B: b})
				if bytes.Compare(last, got) >= 0 {
					t.Fatalf("P7.4: % x stands behind % x", last, got)
				}
				last = got
			}
		}
	}
}
