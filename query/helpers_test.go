package query_test

import (
	"bytes"
	"encoding/binary"
	"math/big"
	"slices"
	"testing"

	"glean/api"
	"glean/dec"
	"glean/kv"
	"glean/query"
	"glean/sound"
)

const top = ^uint64(0)

// Kinds of questions, as the document numbers them.
const (
	askAccount = iota + 1
	askVal
	askDelegation
	askClaim
	askBonded
	askPool
	askFrom
	askHolds
	askChain
	askUnbonding
	askMove
)

// The most questions at once, and workers, as the document numbers them.
const (
	mostAsks    = 256
	mostWorkers = 8
)

// scale: what a Raw is divided by, reckoned by none of the project's calls.
var scale = new(big.Int).Exp(big.NewInt(10), big.NewInt(36), nil)

// whole tells a number as another arithmetic has it.
func whole(x uint64) *big.Int { return new(big.Int).SetUint64(x) }

// coins tells so many coins as the Raw of a Dec.
func coins(x uint64) *big.Int { return new(big.Int).Mul(whole(x), scale) }

// value tells a Nat by its value's definition.
func value(n api.Nat) *big.Int {
	z := new(big.Int)
	for _, limb := range slices.Backward(n) {
		z.Lsh(z, 64).Or(z, whole(limb))
	}
	return z
}

// natOf makes the normal Nat of a value.
func natOf(x *big.Int) api.Nat {
	var n api.Nat
	for rest := new(big.Int).Set(x); rest.Sign() > 0; rest.Rsh(rest, 64) {
		n = append(n, new(big.Int).And(rest, whole(top)).Uint64())
	}
	return n
}

// decOf makes the normal Dec of a Raw's value.
func decOf(x *big.Int) api.Dec { return api.Dec{Raw: natOf(x)} }

// parsed reads a text that must be a Dec.
func parsed(t *testing.T, s string) api.Dec {
	t.Helper()
	d, e := dec.Parse(s)
	if e != api.OK {
		t.Fatalf("P2.4: Parse(%q): %v", s, e)
	}
	return d
}

// spelt tells the bytes of numbers, the highest byte first, behind some others.
func spelt(begin string, all ...uint64) []byte {
	b := []byte(begin)
	for _, n := range all {
		b = binary.BigEndian.AppendUint64(b, n)
	}
	return b
}

// keyOf tells a key of a validator's, by the mark of its kind.
func keyOf(id uint64, mark byte, more ...uint64) []byte {
	return spelt(string(append(spelt("v", id), mark)), more...)
}

// same tells whether two Nats are the same, to the limb.
func same(x, y api.Nat) bool { return slices.Equal(x, y) }

// sameDec tells whether two Decs are.
func sameDec(x, y api.Dec) bool { return same(x.Raw, y.Raw) }

// sameAnswer tells whether two answers are, in all their fields.
func sameAnswer(x, y api.Answer) bool {
	return x.Err == y.Err && slices.Equal(x.N, y.N) && slices.EqualFunc(x.D, y.D, sameDec) && slices.Equal(x.Entries, y.Entries)
}

// sameTotals tells whether two totals are.
func sameTotals(x, y api.Totals) bool {
	return x.Vals == y.Vals && x.Dels == y.Dels && x.Entries == y.Entries &&
		same(x.Coins, y.Coins) && same(x.Tokens, y.Tokens) && same(x.Balances, y.Balances) &&
		sameDec(x.Pool, y.Pool) && sameDec(x.Outstanding, y.Outstanding) && sameDec(x.Shares, y.Shares)
}

// samePair tells whether two entries of a store are.
func samePair(x, y api.Pair) bool {
	return bytes.Equal(x.Key, y.Key) && bytes.Equal(x.Value, y.Value)
}

// answered tells an answer of numbers and Decs.
func answered(t *testing.T, n []uint64, decs ...string) api.Answer {
	t.Helper()
	a := api.Answer{N: n}
	for _, text := range decs {
		a.D = append(a.D, parsed(t, text))
	}
	return a
}

// wantAnswer fails unless a question has that answer.
func wantAnswer(t *testing.T, what string, got, want api.Answer) {
	t.Helper()
	if !sameAnswer(got, want) {
		t.Fatalf("%s: %v, not %v", what, got, want)
	}
}

// wantOnly fails unless a question is answered by that error, and by nothing beside.
func wantOnly(t *testing.T, what string, got api.Answer, want api.Errno) {
	t.Helper()
	wantAnswer(t, what, got, api.Answer{Err: want})
}

// wantTotals fails unless a view has these totals.
func wantTotals(t *testing.T, what string, got, want api.Totals) {
	t.Helper()
	if !sameTotals(got, want) {
		t.Fatalf("%s: %v, not %v", what, got, want)
	}
}

// wantReckoned fails unless totals were reckoned so often.
func wantReckoned(t *testing.T, v *query.View, want int) {
	t.Helper()
	if got := v.Reckoned(); got != want {
		t.Fatalf("P23.3: reckoned %d times, not %d", got, want)
	}
}

// wantMany fails unless several questions are taken, and tells the answers.
func wantMany(t *testing.T, v *query.View, l []api.Ask, workers int) []api.Answer {
	t.Helper()
	answers, e := v.Many(l, workers)
	if e != api.OK || len(answers) != len(l) {
		t.Fatalf("P23.2: Many of %d by %d: %d answers, %v", len(l), workers, len(answers), e)
	}
	return answers
}

// sounded tells a state that breaks no rule.
func sounded(t *testing.T, s *kv.Store) *kv.Store {
	t.Helper()
	if rule := sound.Check(s); rule != 0 {
		t.Fatalf("P19.2: rule %d is broken", rule)
	}
	return s
}
