package audit_test

import (
	"math/big"
	"testing"

	"glean/api"
)

// P25.3: Owes tells what is owed to all behind a validator, without the commission, till it is paid.
func TestOwes(t *testing.T) {
	a := begun(t, plain(api.Founder{Op: 16, Rate: 2500, Tokens: 2}, api.Founder{Op: 18, Tokens: 1}))
	block(t, a, tx(17, 0, 0, delegate, 16, 1), tx(21, 0, 4, fund, 0))
	wantOwes(t, "P25.3: ahead of a reward", a, 16, fraction(0, 1))
	block(t, a, tx(21, 1, 8, fund, 0))
	wantOwes(t, "P25.3: three quarters of 3", a, 16, fraction(9, 4))
	wantOwes(t, "P25.3: all of 1", a, 18, fraction(1, 1))
	block(t, a, tx(17, 1, 0, withdraw, 16))
	wantOwes(t, "P25.3: two thirds of 27 / 4", a, 16, fraction(9, 2))
	wantOwes(t, "P25.3: all of 3", a, 18, fraction(3, 1))
	block(t, a, tx(16, 0, 0, commission), tx(18, 0, 0, undelegate, 18, 0))
	wantOwes(t, "P25.3: behind a commission", a, 16, fraction(9, 2))
	wantOwes(t, "P25.3: of a validator that has ended", a, 18, fraction(0, 1))
	block(t, a, fault(double, 16, 1))
	wantOwes(t, "P25.3: behind a cut", a, 16, fraction(9, 2))
	block(t, a, tx(16, 1, 0, undelegate, 16, 0), tx(17, 2, 0, undelegate, 16, 0))
	wantOwes(t, "P25.3: of another one", a, 16, fraction(0, 1))
}

// P25.3: to those behind a validator that isn't there nothing is owed, and that is covered.
func TestOwesOfNobody(t *testing.T) {
	a := begun(t, plain(api.Founder{Op: 16, Tokens: 2}))
	block(t, a, tx(17, 0, 5, delegate, 16, 1))
	block(t, a)
	for _, id := range []uint64{0, 1, 2, 3, 4, 5, 15, 17, 18, 1000, top} {
		wantOwes(t, "P25.3: no validator", a, id, fraction(0, 1))
	}
	wantOwes(t, "P25.3: beside nobody", a, 16, fraction(5, 1))
}

// P25.3: what is owed is told exactly, also where rewards were rounded: three tenths of what 16 was given.
func TestOwesExactly(t *testing.T) {
	a := begun(t, plain(api.Founder{Op: 16, Tokens: 3}, api.Founder{Op: 18, Tokens: 4}))
	block(t, a, tx(17, 0, 1, delegate, 16, 7))
	block(t, a, tx(17, 1, 1, withdraw, 16))
	given := decValue(parsed(t, "0.714285714285714285714285714285714285"))
	want := new(big.Rat).Mul(given, fraction(3, 10))
	wantOwes(t, "P25.3: 5 of 7 to 16", a, 16, want)
	wantOwes(t, "P25.3: 2 of 7 to 18", a, 18, decValue(parsed(t, "0.285714285714285714285714285714285714")))
	block(t, a)
	wantOwes(t, "P25.3: 5 of 7 more", a, 16, want.Add(want, given))
	wantOwes(t, "P25.3: 2 of 7 more", a, 18, decValue(parsed(t, "0.571428571428571428571428571428571428")))
}

// P25.3: Store is a copy: what is done with it doesn't show, and it doesn't go on with the chain.
func TestStoreIsACopy(t *testing.T) {
	g := plain(api.Founder{Op: 16, Tokens: 3})
	a, like := begun(t, g), begun(t, g)
	s := a.Store()
	if s.Depth() != 0 || s.Ops() != 0 {
		t.Fatalf("P25.3: Store: %d journals, %d operations", s.Depth(), s.Ops())
	}
	early := s.Copy()
	for _, p := range s.Dump() {
		s.Delete(p.Key)
	}
	wantAlike(t, a, like, [][]byte{tx(17, 0, 3, delegate, 16, 1)})
	if sameStore(early, a.Store()) {
		t.Fatal("P25.3: a block hasn't changed the store")
	}
	if again := begun(t, g).Store(); !sameStore(early, again) {
		t.Fatal("P25.3: a copy has gone on with the chain")
	}
	wantAlike(t, a, like, [][]byte{tx(17, 1, 0, withdraw, 16), tx(16, 0, 0, withdraw, 16)})
}
