package sound_test

import (
	"bytes"
	"math/rand"
	"slices"
	"sync"
	"testing"

	"glean/api"
	"glean/bank"
	"glean/dec"
	"glean/kv"
	"glean/power"
	"glean/rec"
	"glean/sound"
	"glean/stake"
)

// samePairs tells whether two stores' entries are the same.
func samePairs(x, y []api.Pair) bool {
	return slices.EqualFunc(x, y, func(a, b api.Pair) bool { return bytes.Equal(a.Key, b.Key) && bytes.Equal(a.Value, b.Value) })
}

// P19.2: every state behind a block of the engine's calls is sound, whatever was done in it.
func TestRunsAreSound(t *testing.T) {
	r := rand.New(rand.NewSource(192))
	seen := map[int]int{}
	for range 60 {
		s := drawnRun(r)
		for range 60 {
			drawnBlock(r, s)
			wantRule(t, "a drawn run", s, 0)
			if t.Failed() {
				return
			}
			for _, kind := range kindsIn(s) {
				seen[kind]++
			}
		}
	}
	for kind := api.KeyParams; kind <= api.KeyCount; kind++ {
		if seen[kind] < 200 {
			t.Errorf("the drawn runs have too few states with keys of kind %d: %d", kind, seen[kind])
		}
	}
}

// P19.2: within a block not all rules hold: who was jailed is bonded still, and what is due is there still.
func TestWithinABlock(t *testing.T) {
	s := plain()
	stake.Undelegate(s, 16, 16, 3)
	wantRule(t, "an unbonding", s, 0)
	changeChain(s, func(c *api.Chain) { c.Height += 9 })
	wantRule(t, "an unbonding that is due", s, 11)
	stake.Mature(s)
	wantRule(t, "behind Mature", s, 0)
	bank.Mint(s, 17, 50)
	stake.Create(s, 17, 0, 50)
	wantRule(t, "a validator that isn't elected yet", s, 6)
	stake.Elect(s)
	wantRule(t, "behind Elect", s, 0)
}

// oneOfEach: for each rule a fault of a grown state, none of which touches another one's.
func oneOfEach() []func(*kv.Store) {
	return []func(*kv.Store){
		func(s *kv.Store) { s.Set([]byte{9}, nil) },
		func(s *kv.Store) { changeParams(s, func(p *api.Params) { p.Fee = api.MaxFee + 1 }) },
		func(s *kv.Store) { layAccount(s, 7, api.Account{Coins: 1}) },
		func(s *kv.Store) { changeVal(s, 18, func(v *api.Validator) { v.Rate = 10001 }) },
		func(s *kv.Store) { s.Set(at(api.KeyHolds, 23, 16), nil) },
		func(s *kv.Store) { power.Bond(s, 20, true) },
		func(s *kv.Store) { layHistory(s, 16, 0, api.Dec{}, 1) },
		func(s *kv.Store) { changeCut(s, 19, 2, func(c *api.Cut) { c.Before = supply + 1 }) },
		func(s *kv.Store) { changeDelegation(s, 18, 18, func(d *api.Delegation) { d.Stake = dec.Of(151) }) },
		func(s *kv.Store) { bank.Mint(s, api.Shared, 1) },
		func(s *kv.Store) { s.Set(at(api.KeyCount, 23, 16), rec.PutNumber(1)) },
	}
}

// P19.2: of several rules that are broken the first one is told.
func TestWhichRuleComesFirst(t *testing.T) {
	all := oneOfEach()
	for i, first := range all {
		for j, second := range all {
			s := grown()
			first(s)
			if i != j {
				second(s)
			}
			wantRule(t, "two faults", s, min(i, j)+1)
		}
		s := grown()
		for _, how := range all[i:] {
			how(s)
		}
		wantRule(t, "all faults from one on", s, i+1)
	}
}

// P19.2: whatever is changed of a sound state, Check answers as the chapter says.
func TestWhateverIsChanged(t *testing.T) {
	r := rand.New(rand.NewSource(193))
	told := make([]int, 12)
	for range 400 {
		s := drawnRun(r)
		if r.Intn(3) == 0 {
			s = grown()
		}
		for range r.Intn(25) {
			drawnBlock(r, s)
		}
		for range 60 {
			x := s.Copy()
			for range 1 + r.Intn(3) {
				spoil(r, x)
			}
			got, want := sound.Check(x), brokenRule(x.Dump())
			if got != want {
				t.Fatalf("P19.2: rule %d, not %d, of %x", got, want, x.Dump())
			}
			told[got]++
		}
	}
	for rule, n := range told {
		if n < 100 {
			t.Errorf("the drawn states break rule %d too seldom: %v", rule, told)
		}
	}
}

// P19.2: whatever lies there, Check ends and answers as the chapter says.
func TestWhateverLiesThere(t *testing.T) {
	r := rand.New(rand.NewSource(194))
	told := map[int]int{}
	for range 3000 {
		s := kv.New()
		if r.Intn(8) > 0 {
			stake.SetParams(s, drawnParams(r))
			stake.SetChain(s, api.Chain{Height: r.Uint64() >> r.Intn(64), Next: r.Uint64() >> r.Intn(64)})
		}
		for range r.Intn(30) {
			strew(r, s)
		}
		got, want := sound.Check(s), brokenRule(s.Dump())
		if got != want {
			t.Fatalf("P19.2: rule %d, not %d, of %x", got, want, s.Dump())
		}
		told[got]++
	}
	for _, rule := range []int{0, 1, 3, 4} {
		if told[rule] < 50 {
			t.Errorf("the drawn stores break rule %d too seldom: %v", rule, told)
		}
	}
}

// P19.3: Check changes nothing: neither what lies there, nor the journals, nor the count of operations; of a copy it answers the same.
func TestChangesNothing(t *testing.T) {
	all := append(oneOfEach(), func(*kv.Store) {})
	for i, how := range all {
		for depth := range 3 {
			s := grown()
			was := s.Dump()
			for range depth {
				s.Begin()
			}
			how(s)
			behind, ops := s.Dump(), s.Ops()
			want := (i + 1) % len(all)
			for range 2 {
				if got := sound.Check(s); got != want {
					t.Errorf("P19.2: with %d journals: rule %d, not %d", depth, got, want)
				}
			}
			if got := sound.Check(s.Copy()); got != want {
				t.Errorf("P19.2: of a copy: rule %d, not %d", got, want)
			}
			if s.Depth() != depth || s.Ops() != ops || !samePairs(s.Dump(), behind) {
				t.Errorf("P19.3: Check has changed something: %d journals, %d operations, not %d", s.Depth(), s.Ops(), ops)
			}
			for range depth {
				s.Rollback()
			}
			if depth > 0 && !samePairs(s.Dump(), was) {
				t.Error("P19.3: Check has changed a journal")
			}
		}
	}
}

// DOC.md, what holds everywhere, 9: what Check answers hangs on the store alone, whatever is asked beside.
func TestAtOnce(t *testing.T) {
	var all sync.WaitGroup
	for i, how := range oneOfEach() {
		s := grown()
		how(s)
		for range 4 {
			all.Go(func() {
				for range 10 {
					if got := sound.Check(s); got != i+1 {
						t.Errorf("P19.2: beside others: rule %d, not %d", got, i+1)
					}
				}
			})
		}
	}
	all.Wait()
}
