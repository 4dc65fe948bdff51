package keys_test

import (
	"bytes"
	"math/rand"
	"slices"
	"testing"

	"glean/api"
	"glean/keys"
)

// P7.3: Of tells a kind's first byte; there are no other kinds.
func TestOf(t *testing.T) {
	for i, of := range kinds() {
		if i > 0 {
			got, e := keys.Of(i)
			wantBytes(t, "P7.3: Of", got, e, []byte{of.head})
		}
	}
	for _, i := range none() {
		got, e := keys.Of(i)
		wantNone(t, "P7.3: Of no kind", got, e)
	}
}

// P7.3: Under tells what stands ahead of B, of the kinds that use it.
func TestUnder(t *testing.T) {
	for i, of := range kinds() {
		for _, a := range numbers() {
			got, e := keys.Under(i, a)
			if of.numbers == 2 {
				wantBytes(t, "P7.3: Under", got, e, of.under(a))
			} else {
				wantNone(t, "P7.3: Under of a kind without B", got, e)
			}
		}
	}
	for _, i := range none() {
		for _, a := range []uint64{0, 1, top} {
			got, e := keys.Under(i, a)
			wantNone(t, "P7.3: Under of no kind", got, e)
		}
	}
	got, e := keys.Under(api.KeyCut, 16)
	wantBytes(t, "P7.3: the chapter's example", got, e, []byte("\x76\x00\x00\x00\x00\x00\x00\x00\x10\x73"))
}

// P7.3: a key begins with Under of its kind and its A, and with none of another kind or A.
func TestUnderIsWhatKeysBeginWith(t *testing.T) {
	all := every()
	for i, of := range kinds() {
		if of.numbers < 2 {
			continue
		}
		for _, a := range numbers() {
			u, _ := keys.Under(i, a)
			for _, k := range all {
				if bytes.HasPrefix(made(t, k), u) != (k.Kind == i && k.A == a) {
					t.Fatalf("P7.3: Under(%d, %d) is % x, and %v is % x", i, a, u, k, made(t, k))
				}
			}
		}
	}
}

// P7.3: the keys of the kinds 5 to 8 of a validator begin with Val of it, and no others.
func TestVal(t *testing.T) {
	if got := keys.Val(258); !bytes.Equal(got, []byte("v\x00\x00\x00\x00\x00\x00\x01\x02")) {
		t.Errorf("P7.3: Val(258): % x", got)
	}
	all := every()
	for _, v := range numbers() {
		p := keys.Val(v)
		if len(p) != 9 {
			t.Errorf("P7.3: Val(%d): % x", v, p)
		}
		for _, k := range all {
			if bytes.HasPrefix(made(t, k), p) != (k.Kind >= api.KeyVal && k.Kind <= api.KeyCut && k.A == v) {
				t.Fatalf("P7.3: Val(%d) is % x, and %v is % x", v, p, k, made(t, k))
			}
		}
	}
}

// P7.3: a key begins with Of its kind.
func TestOfIsWhatKeysBeginWith(t *testing.T) {
	heads := kinds()
	for i := range heads {
		of, _ := keys.Of(i)
		for _, k := range every() {
			if i > 0 && bytes.HasPrefix(made(t, k), of) != (heads[k.Kind].head == heads[i].head) {
				t.Fatalf("P7.3: Of(%d) is % x, and %v is % x", i, of, k, made(t, k))
			}
		}
	}
}

// P7.3: Next by hand, FF at its end, within and ahead.
func TestNextByHand(t *testing.T) {
	for _, c := range []struct{ b, want string }{
		{"\x70\xff\xff", "\x71"},
		{"\x00", "\x01"},
		{"\xfe", "\xff"},
		{"\xfe\xff", "\xff"},
		{"\x00\x00", "\x00\x01"},
		{"\xff\x00", "\xff\x01"},
		{"\xff\xfe\xff", "\xff\xff"},
		{"a\xff\x7f", "a\xff\x80"},
		{"a\xff\xc3\xbf", "a\xff\xc3\xc0"},
		{"v\x00\x00\x00\x00\x00\x00\x00\xff", "v\x00\x00\x00\x00\x00\x00\x01"},
	} {
		if got := keys.Next([]byte(c.b)); string(got) != c.want {
			t.Errorf("P7.3: Next(% x): % x, not % x", c.b, got, c.want)
		}
	}
	for _, b := range [][]byte{nil, {}, {0xFF}, {0xFF, 0xFF}, bytes.Repeat([]byte{0xFF}, 5000)} {
		if got := keys.Next(b); got != nil {
			t.Errorf("P7.3: Next of %d bytes FF: % x", len(b), got)
		}
	}
}

// few tells all bytes of at most n of some values.
func few(n int) [][]byte {
	all := [][]byte{{}}
	for at := 0; n > 0; n-- {
		last := len(all)
		for ; at < last; at++ {
			for _, c := range []byte{0, 1, 0x7F, 0x80, 0xFE, 0xFF} {
				all = append(all, append(bytes.Clone(all[at]), c))
			}
		}
	}
	return all
}

// P7.3: nothing that begins with b reaches Next(b), and whatever lies below it doesn't lie above all of these.
func TestNextIsTheLeast(t *testing.T) {
	all := few(4)
	for _, b := range few(3) {
		next := keys.Next(b)
		over := append(bytes.Clone(b), bytes.Repeat([]byte{0xFF}, 6)...)
		if next == nil && len(bytes.ReplaceAll(b, []byte{0xFF}, nil)) > 0 || next != nil && bytes.Compare(over, next) >= 0 {
			t.Fatalf("P7.3: Next(% x): % x", b, next)
		}
		for _, c := range all {
			begins, above := bytes.HasPrefix(c, b), bytes.Compare(c, over) > 0
			if next == nil && above || next != nil && (begins && bytes.Compare(c, next) >= 0 || above && bytes.Compare(c, next) < 0) {
				t.Fatalf("P7.3: Next(% x): % x, with % x", b, next, c)
			}
		}
	}
}

// P7.3: Next of a prefix parts the keys that begin with it from those behind them.
func TestNextOfBeginnings(t *testing.T) {
	var all [][]byte
	for _, k := range every() {
		all = append(all, made(t, k))
	}
	slices.SortFunc(all, bytes.Compare)
	r := rand.New(rand.NewSource(73))
	for range 2000 {
		k := all[r.Intn(len(all))]
		p := k[:1+r.Intn(len(k))]
		next := keys.Next(p)
		for _, k := range all {
			if bytes.HasPrefix(k, p) != (bytes.Compare(k, p) >= 0 && bytes.Compare(k, next) < 0) {
				t.Fatalf("P7.3: Next(% x) is % x, and there is % x", p, next, k)
			}
		}
	}
}
