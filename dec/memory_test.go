package dec_test

import (
	"slices"
	"testing"

	"glean/api"
	"glean/dec"
)

// roomy gives a Dec's limbs room behind their end, with something in it, as a caller's longer list has.
func roomy(limbs ...uint64) api.Dec {
	n := len(limbs)
	return api.Dec{Raw: append(limbs, 11, 12, 13)[:n]}
}

// calls: everything that takes Decs or Nats, with a list for each Nat that it answers.
func calls(a, b, c api.Dec) [][]api.Nat {
	sub, _ := dec.Sub(a, b)
	quo, _ := dec.Quo(a, b)
	low, _ := dec.MulDiv(a, b, c)
	high, _ := dec.MulDivUp(a, b, c)
	over, _ := dec.Over(a, 3)
	one, _ := dec.Over(a, 1)
	whole, left := dec.Trunc(a)
	dec.Zero(a)
	dec.Cmp(a, b)
	back, _ := dec.Parse(dec.Text(a))
	return [][]api.Nat{
		{dec.OfNat(a.Raw).Raw}, {dec.Add(a, b).Raw}, {sub.Raw}, {dec.Mul(a, b).Raw}, {quo.Raw}, {low.Raw}, {high.Raw},
		{dec.Times(a, 1).Raw}, {over.Raw}, {one.Raw}, {whole, left.Raw}, {back.Raw}, {dec.Of(1).Raw}, {dec.Of(0).Raw}, {dec.Basis(1).Raw}, {dec.Basis(10000).Raw},
	}
}

func arguments() []api.Dec {
	return []api.Dec{{}, roomy(), roomy(0), roomy(1), roomy(5, 0), roomy(top), roomy(3, 1), roomy(0, 0, 7), roomy(12919594847110692864, 54210108624275221, 0), roomy(top, top, 0, 0)}
}

// spoil writes over a Nat, and over the room behind it.
func spoil(a api.Nat) {
	a = a[:cap(a)]
	for i := range a {
		a[i] = 77
	}
}

// DOC.md, what holds everywhere, 3: P2.1 to P2.4 change no argument, and answer new memory.
func TestMemory(t *testing.T) {
	for _, a := range arguments() {
		for _, b := range arguments() {
			given := []api.Dec{a, b, roomy(9, 0)}
			var before []api.Nat
			for _, g := range given {
				before = append(before, slices.Clone(g.Raw[:cap(g.Raw)]))
			}
			want := calls(a, b, given[2])
			for i, answer := range calls(a, b, given[2]) {
				for j := range answer {
					spoil(answer[j])
					for k := j + 1; k < len(answer); k++ {
						if !slices.Equal(answer[k], want[i][k]) {
							t.Fatalf("answers of %v, %v share memory", a.Raw, b.Raw)
						}
					}
				}
			}
			for i, answer := range calls(a, b, given[2]) {
				for j := range answer {
					if !slices.Equal(answer[j], want[i][j]) {
						t.Fatalf("an answer of %v, %v, spoilt, shows in a later one", a.Raw, b.Raw)
					}
				}
			}
			for i, g := range given {
				if !slices.Equal(before[i], g.Raw[:cap(g.Raw)]) {
					t.Fatalf("argument %d of %v, %v was changed", i, a.Raw, b.Raw)
				}
			}
		}
	}
}

// DOC.md, what holds everywhere, 2: a nil list and an empty one are the same.
func TestNoLimbs(t *testing.T) {
	for _, a := range arguments() {
		empty := calls(a, raw(), raw())
		for i, answer := range calls(a, api.Dec{}, api.Dec{}) {
			for j := range answer {
				if !slices.Equal(answer[j], empty[i][j]) {
					t.Errorf("no limbs: %v, not %v", answer[j], empty[i][j])
				}
			}
		}
	}
}
