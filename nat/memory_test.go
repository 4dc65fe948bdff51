package nat_test

import (
	"slices"
	"testing"

	"glean/api"
	"glean/nat"
)

// roomy gives a list room behind its end, with something in it, as a caller's longer list has.
func roomy(limbs ...uint64) api.Nat {
	n := len(limbs)
	return append(limbs, 11, 12, 13)[:n]
}

// calls: everything that takes Nats, with a list for each Nat that it answers.
func calls(a, b, c api.Nat) [][]api.Nat {
	difference, _ := nat.Sub(a, b)
	q, r, _ := nat.DivMod(a, b)
	p, s, _ := nat.MulDiv(a, b, c)
	nat.Small(a)
	nat.Cmp(a, b)
	nat.Bits(a)
	nat.Text(a)
	spoil(nat.Bytes(a), 0xaa)
	return [][]api.Nat{{nat.Norm(a)}, {nat.Add(a, b)}, {difference}, {nat.Mul(a, b)}, {q, r}, {p, s}, {nat.Gcd(a, b)}}
}

// spoil writes over a list, and over the room behind it.
func spoil[T any](l []T, x T) {
	l = l[:cap(l)]
	for i := range l {
		l[i] = x
	}
}

func arguments() []api.Nat {
	return []api.Nat{nil, roomy(), roomy(0), roomy(1), roomy(5, 0), roomy(top), roomy(3, 1), roomy(0, 0, 7), roomy(top, top, 0, 0)}
}

// DOC.md, what holds everywhere, 3: P1.1 to P1.4 change no argument, and answer new memory.
func TestMemory(t *testing.T) {
	for _, a := range arguments() {
		for _, b := range arguments() {
			c := roomy(9, 0)
			given := []api.Nat{a, b, c}
			var before []api.Nat
			for _, g := range given {
				before = append(before, slices.Clone(g[:cap(g)]))
			}
			for _, answer := range calls(a, b, c) {
				for i, one := range answer {
					others := slices.Clone(answer)
					for j := range others {
						others[j] = slices.Clone(others[j])
					}
					spoil(one, 77)
					for j, other := range others {
						if j != i && !slices.Equal(other, answer[j]) {
							t.Fatalf("answers of %v, %v share memory", a, b)
						}
					}
				}
			}
			for i, g := range given {
				if !slices.Equal(before[i], g[:cap(g)]) {
					t.Fatalf("argument %d of %v, %v, %v was changed: %v, it was %v", i, a, b, c, g[:cap(g)], before[i])
				}
			}
		}
	}
}

// DOC.md, what holds everywhere, 3: FromBytes keeps nothing of b, and an answer stays when another one is spoilt.
func TestMemoryOfBytes(t *testing.T) {
	b := []byte{1, 2, 3, 4, 5, 6, 7, 8, 9, 44}[:9]
	got, _ := nat.FromBytes(b)
	spoil(got, 77)
	if !slices.Equal(b[:10], []byte{1, 2, 3, 4, 5, 6, 7, 8, 9, 44}) {
		t.Errorf("FromBytes changed b: %v", b[:10])
	}
	got, _ = nat.FromBytes(b)
	spoil(b, 0)
	wantNat(t, "FromBytes, b changed behind it", got, api.Nat{0x0203040506070809, 1})
	spoil(nat.Of(3), 77)
	wantNat(t, "Of(3)", nat.Of(3), api.Nat{3})
	power, _ := nat.Pow10(0)
	spoil(power, 77)
	power, _ = nat.Pow10(0)
	wantNat(t, "Pow10(0)", power, api.Nat{1})
	whole, _ := nat.Parse("0")
	spoil(whole, 77)
	whole, _ = nat.Parse("0")
	wantNat(t, "Parse(0)", whole, nil)
}

// DOC.md, what holds everywhere, 2: a nil list and an empty one are the same.
func TestNoLimbs(t *testing.T) {
	for _, a := range arguments() {
		empty := calls(a, api.Nat{}, api.Nat{})
		for i, answer := range calls(a, nil, nil) {
			for j := range answer {
				wantNat(t, "no limbs", answer[j], empty[i][j])
			}
		}
	}
}
