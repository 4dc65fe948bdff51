package script_test

import (
	"bytes"
	"encoding/binary"
	"errors"
	"slices"
	"testing"

	"glean/api"
	"glean/script"
)

const top = ^uint64(0)

// begin: how the document's example begins.
const begin = "params 2 10 4 0 500 100 5 50 1 16\naccount 16 100\nvalidator 16 0 10\n"

// begun tells what that is.
func begun() api.Genesis {
	return api.Genesis{
		Params:   api.Params{Max: 2, Unbond: 10, Entries: 4, Double: 500, Down: 100, Jail: 5, Age: 50, Fee: 1, Keeper: 16},
		Accounts: []api.Purse{{Id: 16, Coins: 100}},
		Vals:     []api.Founder{{Op: 16, Tokens: 10}},
	}
}

// spelt tells the bytes of numbers, the highest byte first, behind some others.
func spelt(begin []byte, all ...uint64) []byte {
	b := slices.Clone(begin)
	for _, n := range all {
		b = binary.BigEndian.AppendUint64(b, n)
	}
	return b
}

// tx tells the bytes of a transaction, with the numbers that its kind uses.
func tx(sender, seq, fee uint64, kind byte, uses ...uint64) []byte {
	return spelt(append(spelt([]byte{0x54}, sender, seq, fee), kind), uses...)
}

// fault tells the bytes of a fault.
func fault(kind byte, val, height uint64) []byte {
	return spelt([]byte{0x46, kind}, val, height)
}

// sameBlocks tells whether two lists of blocks hold the same items.
func sameBlocks(x, y [][][]byte) bool {
	return slices.EqualFunc(x, y, func(x, y [][]byte) bool { return slices.EqualFunc(x, y, bytes.Equal) })
}

// sameScript tells whether two scripts are the same; a nil list and an empty one are.
func sameScript(x, y api.Script) bool {
	return x.Genesis.Params == y.Genesis.Params && slices.Equal(x.Genesis.Accounts, y.Genesis.Accounts) && slices.Equal(x.Genesis.Vals, y.Genesis.Vals) && sameBlocks(x.Blocks, y.Blocks)
}

// parsed reads a text that must be right.
func parsed(t *testing.T, text string) api.Script {
	t.Helper()
	s, err := script.Parse(text)
	if err != nil {
		t.Fatalf("P26.1: %.80q: %v", text, err)
	}
	return s
}

// wantParse fails unless a text is that script.
func wantParse(t *testing.T, text string, want api.Script) {
	t.Helper()
	if got := parsed(t, text); !sameScript(got, want) {
		t.Fatalf("P26.1: %.200q: %+v, not %+v", text, got, want)
	}
}

// wantBlocks fails unless the text of the example's beginning, with these lines behind it, has these blocks.
func wantBlocks(t *testing.T, lines string, blocks ...[][]byte) {
	t.Helper()
	wantParse(t, begin+lines, api.Script{Genesis: begun(), Blocks: blocks})
}

// numbersOf tells all errors that api has numbers for.
func numbersOf() []api.Errno {
	var all []api.Errno
	for n := range api.Errno(400) {
		all = append(all, n)
	}
	return all
}

// wantError fails unless a text isn't right in that line, by that error and by no other one.
func wantError(t *testing.T, text string, line int, want api.Errno) {
	t.Helper()
	s, err := script.Parse(text)
	f, ok := err.(*api.LineError)
	if !ok || f.Line != line || f.Err != want {
		t.Fatalf("P26.1: %.200q: %v, not line %d: %v", text, err, line, want)
	}
	for _, n := range numbersOf() {
		if errors.Is(err, n) != (n == want) {
			t.Fatalf("P26.1: %.200q: %v, as to %v", text, err, n)
		}
	}
	var number api.Errno
	if !errors.As(err, &number) || number != want {
		t.Fatalf("P26.1: %.200q wraps %v, not %v", text, number, want)
	}
	if !sameScript(s, api.Script{}) {
		t.Fatalf("P26.1: %.200q: beside an error: %+v", text, s)
	}
}

// wantPrint fails unless that is a script's text.
func wantPrint(t *testing.T, s api.Script, want string) {
	t.Helper()
	if got := script.Print(s); got != want {
		t.Fatalf("P26.2: %.400q, not %.400q", got, want)
	}
}

// wantPlay fails unless that comes of a text.
func wantPlay(t *testing.T, text, want string) {
	t.Helper()
	got, e := script.Play(parsed(t, text))
	if e != api.OK || got != want {
		t.Fatalf("P26.3: %q: %v, %q, not %q", text, e, got, want)
	}
}

// wantRefused fails unless a script can't be played, by that error.
func wantRefused(t *testing.T, s api.Script, want api.Errno) {
	t.Helper()
	if got, e := script.Play(s); e != want || got != "" {
		t.Fatalf("P26.3: %q, %v, not %v", got, e, want)
	}
}
