package share_test

import (
	"slices"
	"testing"

	"glean/api"
	"glean/share"
)

// roomy gives a Dec's limbs room behind their end, with something in it, as a caller's longer list has.
func roomy(limbs ...uint64) api.Dec {
	n := len(limbs)
	return api.Dec{Raw: append(limbs, 11, 12, 13)[:n]}
}

// calls: what all calls that take Decs answer of them.
func calls(tokens uint64, shares, x api.Dec, n uint64) []api.Nat {
	issued, _ := share.Issue(tokens, shares, n)
	need, _ := share.Need(tokens, shares, n)
	share.Redeem(tokens, shares, x)
	return []api.Nat{issued.Raw, need.Raw, share.Worth(tokens, shares, x).Raw}
}

// arguments tells Decs with room behind them, some of them not normal.
func arguments() []api.Dec {
	return []api.Dec{{}, roomy(), roomy(0), roomy(1), roomy(5, 0), roomy(top), roomy(3, 1), roomy(0, 0, 7), roomy(12919594847110692864, 54210108624275221, 0), roomy(top, top, 0, 0)}
}

// spoil writes over a Nat, and over the room behind it.
func spoil(a api.Nat) {
	a = a[:cap(a)]
	for i := range a {
		a[i] = 77
	}
}

// sameAnswers tells whether two calls have answered alike.
func sameAnswers(x, y []api.Nat) bool {
	return slices.EqualFunc(x, y, func(a, b api.Nat) bool { return slices.Equal(a, b) })
}

// DOC.md, what holds everywhere, 3: P10.1 to P10.4 change no argument, and answer new memory.
func TestMemory(t *testing.T) {
	for _, tokens := range []uint64{0, 1, 3, top} {
		for _, n := range []uint64{0, 1, 3, top} {
			for _, shares := range arguments() {
				for _, x := range arguments() {
					shares0, x0 := slices.Clone(shares.Raw[:cap(shares.Raw)]), slices.Clone(x.Raw[:cap(x.Raw)])
					want := calls(tokens, shares, x, n)
					for _, answer := range calls(tokens, shares, x, n) {
						spoil(answer)
					}
					if !slices.Equal(shares0, shares.Raw[:cap(shares.Raw)]) || !slices.Equal(x0, x.Raw[:cap(x.Raw)]) {
						t.Fatalf("arguments %v, %v were changed", shares.Raw, x.Raw)
					}
					if !sameAnswers(calls(tokens, shares, x, n), want) {
						t.Fatalf("an answer of %v, %v, spoilt, shows in a later one", shares.Raw, x.Raw)
					}
				}
			}
		}
	}
}

// DOC.md, what holds everywhere, 2: a nil list and an empty one are the same.
func TestNoLimbs(t *testing.T) {
	for _, tokens := range []uint64{0, 1, top} {
		for _, x := range arguments() {
			if !sameAnswers(calls(tokens, api.Dec{}, x, 5), calls(tokens, raw(), x, 5)) || !sameAnswers(calls(tokens, x, api.Dec{}, 5), calls(tokens, x, raw(), 5)) {
				t.Errorf("no limbs, beside %d and %v", tokens, x.Raw)
			}
			first, e := share.Redeem(tokens, api.Dec{}, x)
			second, f := share.Redeem(tokens, raw(), x)
			sameNumber(t, "no limbs: Redeem", first, e, second, f)
		}
	}
}
