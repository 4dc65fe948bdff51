package rat_test

import (
	"slices"
	"testing"

	"glean/api"
	"glean/rat"
)

// roomy gives limbs room behind their end, with something in it, as a caller's longer list has.
func roomy(limbs ...uint64) api.Nat {
	n := len(limbs)
	return append(limbs, 11, 12, 13)[:n]
}

func arguments() []api.Rat {
	parts := [][]uint64{nil, {0}, {1}, {6, 0}, {4}, {top}, {3, 1}, {0, 0, 7}}
	var l []api.Rat
	for _, num := range parts {
		for _, den := range parts {
			l = append(l, api.Rat{Num: roomy(slices.Clone(num)...), Den: roomy(slices.Clone(den)...)})
		}
	}
	return append(l, api.Rat{})
}

// calls: everything that takes or answers Rats, with a list of the Nats of each answer.
func calls(a, b api.Rat) [][]api.Nat {
	of, _ := rat.Of(a.Num, b.Den)
	sub, _ := rat.Sub(a, b)
	quo, _ := rat.Quo(a, b)
	rat.Zero(a)
	rat.Cmp(a, b)
	var l [][]api.Nat
	for _, z := range []api.Rat{of, sub, quo, rat.OfNat(a.Num), rat.OfDec(api.Dec{Raw: a.Num}), rat.Add(a, b), rat.Mul(a, b), rat.Sum(), rat.Sum(a), rat.Sum(a, b, a)} {
		l = append(l, []api.Nat{z.Num, z.Den})
	}
	return append(l, []api.Nat{rat.Floor(a)}, []api.Nat{rat.Down(a).Raw})
}

// sameLists tells whether the Nats of two lists are the same, one by one.
func sameLists(a, b []api.Nat) bool {
	return slices.EqualFunc(a, b, func(x, y api.Nat) bool { return slices.Equal(x, y) })
}

// spoil writes over a Nat, and over the room behind it.
func spoil(a api.Nat) {
	a = a[:cap(a)]
	for i := range a {
		a[i] = 77
	}
}

// held tells all that hangs on some Rats, the room behind their ends included.
func held(l ...api.Rat) []api.Nat {
	var all []api.Nat
	for _, a := range l {
		all = append(all, slices.Clone(a.Num[:cap(a.Num)]), slices.Clone(a.Den[:cap(a.Den)]))
	}
	return all
}

// DOC.md, what holds everywhere, 3: P3.1 to P3.3 change no argument, and answer new memory.
func TestMemory(t *testing.T) {
	for _, a := range arguments() {
		for _, b := range arguments() {
			before := held(a, b)
			want := calls(a, b)
			for i, answer := range calls(a, b) {
				for j := range answer {
					spoil(answer[j])
					if !sameLists(answer[j+1:], want[i][j+1:]) {
						t.Fatalf("the lists of an answer of %v, %v share memory", a, b)
					}
				}
			}
			for i, answer := range calls(a, b) {
				if !sameLists(answer, want[i]) {
					t.Fatalf("an answer of %v, %v, spoilt, shows in a later one", a, b)
				}
			}
			if !sameLists(held(a, b), before) {
				t.Fatalf("an argument of %v, %v was changed", a, b)
			}
		}
	}
}

// DOC.md, what holds everywhere, 3: a list of fractions stays as it was.
func TestMemoryOfAList(t *testing.T) {
	l := arguments()
	room := append(slices.Clone(l), small(8, 6))[:len(l)]
	before := held(room[:len(l)+1]...)
	want := rat.Sum(l...)
	got := rat.Sum(room...)
	wantSame(t, "the sum of a list with room behind it", got, want)
	spoil(got.Num)
	spoil(got.Den)
	if !sameLists(held(room[:len(l)+1]...), before) {
		t.Error("the list of a sum was changed")
	}
}

// DOC.md, what holds everywhere, 2: a nil list and an empty one are the same.
func TestNoLimbs(t *testing.T) {
	for _, a := range arguments() {
		empty := calls(a, api.Rat{Num: api.Nat{}, Den: api.Nat{}})
		for i, answer := range calls(a, api.Rat{}) {
			if !sameLists(answer, empty[i]) {
				t.Errorf("no limbs: %v, not %v", answer, empty[i])
			}
		}
	}
}
