package sound_test

import (
	"testing"

	"glean/api"
	"glean/kv"
	"glean/queue"
	"glean/rec"
)

// unbonding tells how the unbonding 1 is changed.
func unbonding(how func(*api.Unbonding)) func(*kv.Store) {
	return func(s *kv.Store) { changeUnbonding(s, 1, how) }
}

// moving tells how the move 2 is changed.
func moving(how func(*api.Move)) func(*kv.Store) {
	return func(s *kv.Store) { changeMove(s, 2, how) }
}

// begun tells how an unbonding begins, with all that lies of it, and without coins.
func begun(u api.Unbonding) func(*kv.Store) {
	return func(s *kv.Store) { queue.Unbond(s, u) }
}

// begunMove tells how a move begins.
func begunMove(m api.Move) func(*kv.Store) {
	return func(s *kv.Store) { queue.Move(s, m) }
}

// P19.2, rule 11: whose entries may be, of what time and how many coins.
func TestEntries(t *testing.T) {
	fine := api.Unbonding{Del: 16, Val: 17, Height: 5, Due: 6, Initial: 1}
	change := func(how func(*api.Unbonding)) func(*kv.Store) {
		u := fine
		how(&u)
		return begun(u)
	}
	wantRules(t, plain, []fault{
		{0, "one that may be", begun(fine)},
		{11, "a delegator below the first user", change(func(u *api.Unbonding) { u.Del = 15 })},
		{11, "no delegator", change(func(u *api.Unbonding) { u.Del = 0 })},
		{0, "the last delegator", change(func(u *api.Unbonding) { u.Del = top })},
		{11, "a validator below the first user", change(func(u *api.Unbonding) { u.Val = 15 })},
		{0, "a validator that isn't there", change(func(u *api.Unbonding) { u.Val = top })},
		{0, "an earlier height", change(func(u *api.Unbonding) { u.Height = 0 })},
		{11, "a later height", change(func(u *api.Unbonding) { u.Height = 6 })},
		{11, "a later height, and due later", change(func(u *api.Unbonding) { u.Height, u.Due = 6, 9 })},
		{11, "due now", change(func(u *api.Unbonding) { u.Due = 5 })},
		{11, "due long ago", change(func(u *api.Unbonding) { u.Due = 0 })},
		{0, "due at the last height", change(func(u *api.Unbonding) { u.Due = top })},
		{11, "of nothing", change(func(u *api.Unbonding) { u.Initial = 0 })},
		{0, "of all coins", change(func(u *api.Unbonding) { u.Initial = supply })},
		{11, "of one more", change(func(u *api.Unbonding) { u.Initial = supply + 1 })},
		{11, "of the most of all", change(func(u *api.Unbonding) { u.Initial = top })},
	})
	wantRules(t, grown, []fault{
		{0, "as many at first", unbonding(func(u *api.Unbonding) { u.Initial = 30 })},
		{0, "more at first", unbonding(func(u *api.Unbonding) { u.Initial = 31 })},
		{11, "more left than at first", unbonding(func(u *api.Unbonding) { u.Initial = 29 })},
	})
}

// P19.2, rule 11: of moves.
func TestMoves(t *testing.T) {
	fine := api.Move{Del: 16, Src: 17, Dst: 18, Height: 5, Due: 6, Initial: 1, Shares: parsed("0.5")}
	change := func(how func(*api.Move)) func(*kv.Store) {
		m := fine
		how(&m)
		return begunMove(m)
	}
	wantRules(t, plain, []fault{
		{0, "one that may be", begunMove(fine)},
		{11, "a delegator below the first user", change(func(m *api.Move) { m.Del = 15 })},
		{11, "a source below the first user", change(func(m *api.Move) { m.Src = 15 })},
		{11, "a target below the first user", change(func(m *api.Move) { m.Dst = 15 })},
		{11, "no target", change(func(m *api.Move) { m.Dst = 0 })},
		{11, "to itself", change(func(m *api.Move) { m.Dst = 17 })},
		{0, "to the delegator's own", change(func(m *api.Move) { m.Dst = 16 })},
		{0, "from the delegator's own", change(func(m *api.Move) { m.Src = 16 })},
		{0, "between the last ones", change(func(m *api.Move) { m.Src, m.Dst = top-1, top })},
		{11, "a later height", change(func(m *api.Move) { m.Height = 6 })},
		{11, "due now", change(func(m *api.Move) { m.Due = 5 })},
		{0, "due at the last height", change(func(m *api.Move) { m.Due = top })},
		{11, "of nothing", change(func(m *api.Move) { m.Initial = 0 })},
		{0, "of all coins", change(func(m *api.Move) { m.Initial = supply })},
		{11, "of one more", change(func(m *api.Move) { m.Initial = supply + 1 })},
		{0, "without shares", change(func(m *api.Move) { m.Shares = api.Dec{} })},
		{0, "of very many shares", change(func(m *api.Move) { m.Shares = tenTo(99) })},
	})
}

// P19.2, rule 11: entries' numbers are below Next, and no number is of both kinds.
func TestNumbers(t *testing.T) {
	next := func(n uint64) func(*kv.Store) {
		return func(s *kv.Store) { changeChain(s, func(c *api.Chain) { c.Next = n }) }
	}
	again := func(n uint64) func(*kv.Store) { // the next entry has that number
		return func(s *kv.Store) {
			next(n)(s)
			queue.Move(s, api.Move{Del: 23, Src: 18, Dst: 16, Height: 5, Due: 9, Initial: 1})
			next(9)(s)
		}
	}
	both := func(n uint64) func(*kv.Store) {
		return func(s *kv.Store) {
			next(n)(s)
			queue.Unbond(s, api.Unbonding{Del: 23, Val: 18, Height: 5, Due: 9, Initial: 1})
			next(9)(s)
		}
	}
	wantRules(t, grown, []fault{
		{0, "far below Next", next(most)},
		{11, "the last one is Next", next(3)},
		{11, "the last one is above Next", next(2)},
		{11, "Next is 0", next(0)},
		{0, "a number ahead of all", again(0)},
		{0, "a number of its own", again(7)},
		{11, "a move of an unbonding's number", again(1)},
		{11, "a move of another unbonding's number", again(3)},
		{11, "an unbonding of a move's number", both(2)},
		{0, "an unbonding of its own number", both(8)},
	})
	wantRules(t, plain, []fault{{0, "an entry of the greatest number", func(s *kv.Store) {
		next(most - 1)(s)
		queue.Unbond(s, api.Unbonding{Del: 16, Val: 16, Due: 6, Initial: 1})
	}}})
}

// P19.2, rule 11: each entry is found by its time and by its validator, and nothing else is.
func TestPlaces(t *testing.T) {
	gone := func(kind int, a, b uint64) func(*kv.Store) { return func(s *kv.Store) { s.Delete(at(kind, a, b)) } }
	laid := func(kind int, a, b, n uint64) func(*kv.Store) {
		return func(s *kv.Store) { s.Set(at(kind, a, b), rec.PutNumber(n)) }
	}
	moved := func(kind int, a, b, c, d uint64) func(*kv.Store) {
		return func(s *kv.Store) { moveEntry(s, at(kind, a, b), at(kind, c, d)) }
	}
	wantRules(t, grown, []fault{
		{11, "no time of an unbonding", gone(api.KeyDue, 14, 1)},
		{11, "no time of a move", gone(api.KeyDue, 14, 2)},
		{11, "no source of an unbonding", gone(api.KeySource, 16, 3)},
		{11, "no source of a move", gone(api.KeySource, 17, 2)},
		{11, "another kind at a time", laid(api.KeyDue, 14, 1, 13)},
		{11, "another kind at a source", laid(api.KeySource, 17, 2, 12)},
		{11, "a second time", laid(api.KeyDue, 15, 1, 12)},
		{11, "a second source", laid(api.KeySource, 18, 2, 13)},
		{11, "a time of no entry", laid(api.KeyDue, 14, 0, 12)},
		{11, "a source of no entry", laid(api.KeySource, 16, 9, 13)},
		{11, "another time", moved(api.KeyDue, 14, 1, 15, 1)},
		{11, "another source", moved(api.KeySource, 16, 1, 18, 1)},
		{11, "the target in the place of the source", moved(api.KeySource, 17, 2, 16, 2)},
		{11, "an entry of another time", unbonding(func(u *api.Unbonding) { u.Due = 15 })},
		{11, "a move of another time", moving(func(m *api.Move) { m.Due = 13 })},
		{11, "an entry of another validator", unbonding(func(u *api.Unbonding) { u.Val = 18 })},
		{0, "a move to another validator", moving(func(m *api.Move) { m.Dst = 18 })},
		{11, "a time without its entry", func(s *kv.Store) { s.Delete(at(api.KeyMove, 2)) }},
	})
}

// P19.2, rule 11: each pair has its count, at most Entries, and nobody else one.
func TestCounts(t *testing.T) {
	count := func(del, val, n uint64) func(*kv.Store) {
		return func(s *kv.Store) { s.Set(at(api.KeyCount, del, val), rec.PutNumber(n)) }
	}
	entries := func(n uint64) func(*kv.Store) {
		return func(s *kv.Store) { changeParams(s, func(p *api.Params) { p.Entries = n }) }
	}
	wantRules(t, grown, []fault{
		{11, "one too many", count(20, 16, 3)},
		{11, "one too few", count(20, 16, 1)},
		{11, "none", count(20, 16, 0)},
		{11, "no count", func(s *kv.Store) { s.Delete(at(api.KeyCount, 20, 16)) }},
		{11, "a count of nobody", count(22, 16, 1)},
		{11, "a count of nobody that is 0", count(22, 16, 0)},
		{11, "a count of nobody that is 0, in the place of another one", func(s *kv.Store) {
			s.Delete(at(api.KeyCount, 20, 16))
			count(22, 16, 0)(s)
		}},
		{11, "a count that is turned round", func(s *kv.Store) { moveEntry(s, at(api.KeyCount, 21, 17), at(api.KeyCount, 17, 21)) }},
		{11, "a move's count by its target", func(s *kv.Store) { moveEntry(s, at(api.KeyCount, 21, 17), at(api.KeyCount, 21, 16)) }},
		{11, "an entry of another delegator", unbonding(func(u *api.Unbonding) { u.Del = 22 })},
		{11, "a move of another delegator", moving(func(m *api.Move) { m.Del = 22 })},
		{0, "as many as may be", entries(2)},
		{11, "more than may be", entries(1)},
		{0, "an unbonding and a move of one pair", begunMove(api.Move{Del: 20, Src: 16, Dst: 18, Height: 5, Due: 6, Initial: 1})},
		{11, "an unbonding and moves of one pair, more than may be", func(s *kv.Store) {
			for range 2 {
				begunMove(api.Move{Del: 20, Src: 16, Dst: 18, Height: 5, Due: 6, Initial: 1})(s)
			}
		}},
		{0, "each of several pairs as many as may be", func(s *kv.Store) {
			entries(2)(s)
			for del := uint64(16); del < 20; del++ {
				for range 2 {
					begun(api.Unbonding{Del: del, Val: 16, Height: 5, Due: 6, Initial: 1})(s)
				}
			}
		}},
	})
}
