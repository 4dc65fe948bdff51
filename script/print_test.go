package script_test

import (
	"bytes"
	"fmt"
	"strings"
	"testing"

	"glean/api"
	"glean/script"
)

const noParams = "params 0 0 0 0 0 0 0 0 0 0\n"

// P26.2: a line for each thing, in the table's order, one blank between words, each line with a line feed.
func TestPrintByHand(t *testing.T) {
	wantPrint(t, api.Script{}, noParams)
	wantPrint(t, api.Script{Genesis: begun()}, begin)
	s := api.Script{
		Genesis: api.Genesis{
			Params:   api.Params{Max: 1, Unbond: 2, Entries: 3, Tax: 4, Double: 5, Down: 6, Jail: 7, Age: 8, Fee: 9, Keeper: top},
			Accounts: []api.Purse{{Id: 3, Coins: 4}, {Id: 1, Coins: 2}, {}},
			Vals:     []api.Founder{{Op: 9, Rate: 8, Tokens: 7}, {Op: top, Rate: 10, Tokens: 11}},
		},
		Blocks: [][][]byte{nil, {fault(2, 16, 3), nil, {0, 0xAB}, tx(16, 2, 3, 8), fault(9, 1, top)}, {}},
	}
	wantPrint(t, s, "params 1 2 3 4 5 6 7 8 9 18446744073709551615\naccount 3 4\naccount 1 2\naccount 0 0\nvalidator 9 8 7\nvalidator 18446744073709551615 10 11\n"+
		"block\nblock\nfault down 16 3\nraw -\nraw 00ab\ntx 16 2 3 unjail\nfault 9 1 18446744073709551615\nblock\n")
}

// P26.2: each message has its word, and the numbers that it uses.
func TestPrintMessages(t *testing.T) {
	words := []string{"send 7 9", "create 7 9", "delegate 7 9", "undelegate 7 9", "redelegate 7 8 9", "withdraw 7", "commission", "unjail", "fund 9", "spend 7 9"}
	uses := [][]uint64{{7, 9}, {7, 9}, {7, 9}, {7, 9}, {7, 8, 9}, {7}, nil, nil, {9}, {7, 9}}
	for i := range words {
		wantPrint(t, api.Script{Blocks: [][][]byte{{tx(16, 4, 5, byte(i+1), uses[i]...)}}}, noParams+"block\ntx 16 4 5 "+words[i]+"\n")
	}
}

// P26.2: double and down are words, other faults numbers.
func TestPrintFaults(t *testing.T) {
	for kind := range 256 {
		word := fmt.Sprint(kind)
		switch kind {
		case 1:
			word = "double"
		case 2:
			word = "down"
		}
		wantPrint(t, api.Script{Blocks: [][][]byte{{fault(byte(kind), 16, 2)}}}, noParams+"block\nfault "+word+" 16 2\n")
	}
}

// P26.2: what is no item is raw: items that end too early, or that something is behind, other first bytes and kinds, and long ones.
func TestPrintRaw(t *testing.T) {
	var all [][]byte
	for _, b := range [][]byte{tx(16, 4, 5, 6, 17), tx(16, 4, 5, 8), fault(1, 16, 2)} {
		for n := range b {
			all = append(all, b[:n])
		}
		all = append(all, append(bytes.Clone(b), 0), append(bytes.Clone(b), b...), append(bytes.Clone(b), make([]byte, 2000)...), append([]byte{0}, b...))
	}
	for kind := range 256 {
		if kind < 1 || kind > 10 {
			all = append(all, tx(16, 4, 5, byte(kind)))
		}
		if kind != 0x54 && kind != 0x46 {
			all = append(all, []byte{byte(kind)})
		}
	}
	all = append(all, make([]byte, 1024), make([]byte, 1025), make([]byte, 100000))
	for _, b := range all {
		want := fmt.Sprintf("raw %x\n", b)
		if len(b) == 0 {
			want = "raw -\n"
		}
		wantPrint(t, api.Script{Blocks: [][][]byte{{b}}}, noParams+"block\n"+want)
	}
}

// P26.2: also more accounts, founders, blocks and items than may be played, and a text of more than MaxText bytes.
func TestPrintMuch(t *testing.T) {
	s := api.Script{Genesis: api.Genesis{Accounts: make([]api.Purse, 10000), Vals: make([]api.Founder, 10000)}, Blocks: make([][][]byte, 10000)}
	s.Blocks[9999] = make([][]byte, 10000)
	wantPrint(t, s, noParams+strings.Repeat("account 0 0\n", 10000)+strings.Repeat("validator 0 0 0\n", 10000)+strings.Repeat("block\n", 10000)+strings.Repeat("raw -\n", 10000))
	if _, err := script.Parse(script.Print(s)); err == nil {
		t.Error("P26.1: a long text is taken")
	}
}
