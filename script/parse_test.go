package script_test

import (
	"fmt"
	"strings"
	"testing"

	"glean/api"
)

// P26.1: each kind of line, by hand.
func TestLines(t *testing.T) {
	wantParse(t, "params 1 2 3 4 5 6 7 8 9 10", api.Script{Genesis: api.Genesis{Params: api.Params{Max: 1, Unbond: 2, Entries: 3, Tax: 4, Double: 5, Down: 6, Jail: 7, Age: 8, Fee: 9, Keeper: 10}}})
	wantParse(t, begin, api.Script{Genesis: begun()})
	wantBlocks(t, "block\ntx 16 0 5 send 17 3\n", [][]byte{tx(16, 0, 5, 1, 17, 3)})
	wantBlocks(t, "block\nfault double 16 2\nfault down 17 3\nfault 1 18 4\n", [][]byte{fault(1, 16, 2), fault(2, 17, 3), fault(1, 18, 4)})
	wantBlocks(t, "block\nraw -\nraw 00ff\nraw 0123456789abcdef", [][]byte{{}, {0, 255}, {0x01, 0x23, 0x45, 0x67, 0x89, 0xAB, 0xCD, 0xEF}})
	wantBlocks(t, "block\nblock\nraw 7f\nblock", nil, [][]byte{{127}}, nil)
}

// P26.1: each message, with the numbers that its kind uses, in this order.
func TestMessages(t *testing.T) {
	for _, x := range []struct {
		words string
		kind  byte
		uses  []uint64
	}{
		{"send 17 3", 1, []uint64{17, 3}},
		{"create 500 3", 2, []uint64{500, 3}},
		{"delegate 17 3", 3, []uint64{17, 3}},
		{"undelegate 17 3", 4, []uint64{17, 3}},
		{"redelegate 17 18 3", 5, []uint64{17, 18, 3}},
		{"withdraw 17", 6, []uint64{17}},
		{"commission", 7, nil},
		{"unjail", 8, nil},
		{"fund 3", 9, []uint64{3}},
		{"spend 17 3", 10, []uint64{17, 3}},
	} {
		wantBlocks(t, "block\ntx 16 4 5 "+x.words, [][]byte{tx(16, 4, 5, x.kind, x.uses...)})
		wantError(t, begin+"block\ntx 16 4 5 "+x.words+" 1", 5, api.ErrScriptWord)
		wantError(t, begin+"block\ntx 16 4 5 "+x.words+" x", 5, api.ErrScriptWord)
		words := strings.Fields(x.words)
		for i := range x.uses {
			wantError(t, begin+"block\ntx 16 4 5 "+strings.Join(words[:1+i], " "), 5, api.ErrScriptWord)
			wrong := append(append(append([]string{}, words[:1+i]...), "x"), words[2+i:]...)
			wantError(t, begin+"block\ntx 16 4 5 "+strings.Join(wrong, " "), 5, api.ErrScriptNumber)
		}
	}
}

// P26.1: what is no message's word; words are taken as they are.
func TestNoMessages(t *testing.T) {
	for _, word := range []string{"walk", "Send", "SEND", "sends", "sen", "1", "0", "-", "block", "tx", "double", "send,", "s", "créate"} {
		wantError(t, begin+"block\ntx 16 4 5 "+word+" 17 3", 5, api.ErrScriptWord)
	}
}

// P26.1: lines are parted by line feeds alone, words by blanks alone, of which there may be many.
func TestBlanks(t *testing.T) {
	wantParse(t, "  params   2 10 4 0 500 100 5 50 1 16    \n\n    \n account  16    100 \nvalidator 16 0 10", api.Script{Genesis: begun()})
	for _, x := range []string{"\t", "\r", "\v", "\f", "\u00a0", "\u0085", "\u2028", "\x00", "\u200b"} {
		wantError(t, begin+x+"block", 4, api.ErrScriptWord)
		wantError(t, begin+"block"+x, 4, api.ErrScriptWord)
		wantError(t, begin+x, 4, api.ErrScriptWord)
		wantError(t, begin+"block\ntx 16"+x+"0 5 unjail", 5, api.ErrScriptNumber)
		wantError(t, begin+"block\ntx 16 0 5 unjail "+x, 5, api.ErrScriptWord)
		wantError(t, begin+"block\nraw 00"+x, 5, api.ErrScriptNumber)
	}
	wantError(t, "params 2 10 4 0 500 100 5 50 1 16\r\nblock", 1, api.ErrScriptNumber)
}

// P26.1: a line without words, or whose first word begins with #, says nothing, wherever it stands; a # elsewhere is a word like others.
func TestLinesThatSayNothing(t *testing.T) {
	nothing := "#\n# params\n\n  #account 1\n##\n#\xff\x00 \t\n   \n"
	lines := strings.SplitAfter(begin+"block\nraw 01\nblock\nraw 02\n", "\n")
	wantParse(t, nothing+strings.Join(lines, nothing), api.Script{Genesis: begun(), Blocks: [][][]byte{{{1}}, {{2}}}})
	wantError(t, begin+"block # one", 4, api.ErrScriptWord)
	wantError(t, begin+"block#", 4, api.ErrScriptWord)
	wantError(t, begin+"block\nraw #", 5, api.ErrScriptNumber)
	wantError(t, begin+"\n#\n\nblock 1\n#", 7, api.ErrScriptWord)
}

// P26.1: a number is decimal digits, below 2^64, without noughts ahead.
func TestNumbers(t *testing.T) {
	for _, x := range []struct {
		word string
		n    uint64
	}{{"0", 0}, {"1", 1}, {"9", 9}, {"10", 10}, {"1000", 1000}, {"18446744073709551609", top - 6}, {"18446744073709551615", top}, {"9999999999999999999", 9999999999999999999}} {
		wantBlocks(t, "block\ntx "+x.word+" 1 2 fund "+x.word, [][]byte{tx(x.n, 1, 2, 9, x.n)})
	}
	for _, word := range []string{"00", "01", "000", "+1", "-1", "-", "-0", "1.0", "1e3", "0x10", "1_000", "1,0", " x", "x", "a", "A", "ff", "/", ":", "١", "１", "²", "1²", "1\xff", "\xff", "\x00", "1\x00", "�",
		"18446744073709551616", "18446744073709551620", "18446744073709551625", "18446744073709551700", "28446744073709551615", "20000000000000000000", "99999999999999999999", "100000000000000000000", "184467440737095516150", "36893488147419103232", "018446744073709551615", strings.Repeat("9", 1000), strings.Repeat("0", 1000), "1" + strings.Repeat("0", 64)} {
		for _, line := range []string{"tx %s 1 2 fund 3", "tx 16 %s 2 fund 3", "tx 16 1 %s fund 3", "tx 16 1 2 fund %s", "fault 3 %s 1", "fault 3 1 %s", "fault %s 1 1"} {
			wantError(t, begin+"block\n"+fmt.Sprintf(line, word), 5, api.ErrScriptNumber)
		}
		wantError(t, "params 1 2 3 4 5 6 7 8 9 "+word, 1, api.ErrScriptNumber)
		wantError(t, "params 0 0 0 0 0 0 0 0 0 0\naccount 1 "+word, 2, api.ErrScriptNumber)
		wantError(t, "params 0 0 0 0 0 0 0 0 0 0\nvalidator 1 "+word+" 1", 2, api.ErrScriptNumber)
	}
}

// P26.1: a fault's kind is one of two words, or a number up to 255.
func TestFaults(t *testing.T) {
	for kind := range 256 {
		wantBlocks(t, fmt.Sprintf("block\nfault %d 16 2", kind), [][]byte{fault(byte(kind), 16, 2)})
	}
	for _, word := range []string{"256", "257", "512", "65537", "4294967297", "18446744073709551615", "18446744073709551616", "dawn", "Down", "doubles", "both", "-1", "001", "-"} {
		wantError(t, begin+"block\nfault "+word+" 16 2", 5, api.ErrScriptNumber)
		wantError(t, begin+"block\nfault "+word, 5, api.ErrScriptNumber)
	}
	for _, few := range []string{"fault", "fault down", "fault 3", "fault down 16", "fault 255 16"} {
		wantError(t, begin+"block\n"+few, 5, api.ErrScriptWord)
	}
	wantError(t, begin+"block\nfault down 16 2 0", 5, api.ErrScriptWord)
	wantError(t, begin+"block\nfault down down 2", 5, api.ErrScriptNumber)
	wantError(t, begin+"block\nfault down 16 double", 5, api.ErrScriptNumber)
}

// P26.1: a hex is two digits a byte, of each byte just one.
func TestHex(t *testing.T) {
	for b := range 256 {
		wantBlocks(t, fmt.Sprintf("block\nraw %02x", b), [][]byte{{byte(b)}})
	}
	for _, word := range []string{"0", "f", "000", "0g", "g0", "0G", "0A", "A0", "FF", "--", "-0", "0-", "-00", "00-", "0x00", "zz", "é", "0é", "é0", "0é0", "\xff", "\xff\xff", "0\xff", "::", "//", "``", "..", "#"} {
		wantError(t, begin+"block\nraw "+word, 5, api.ErrScriptNumber)
	}
	wantError(t, begin+"block\nraw", 5, api.ErrScriptWord)
	wantError(t, begin+"block\nraw 00 00", 5, api.ErrScriptWord)
	wantError(t, begin+"block\nraw - -", 5, api.ErrScriptWord)
	wantError(t, begin+"block\nraw x 00", 5, api.ErrScriptNumber)
	long := strings.Repeat("5a", 30000)
	wantBlocks(t, "block\nraw "+long, [][]byte{[]byte(strings.Repeat("Z", 30000))})
	wantError(t, begin+"block\nraw "+long+"5", 5, api.ErrScriptNumber)
}

// P26.1: too few words and too many; the first one that can't stand there tells.
func TestCounts(t *testing.T) {
	for _, line := range []string{"params", "params 1", "params 1 2 3 4 5 6 7 8 9", "params 1 2 3 4 5 6 7 8 9 10 11", "params 1 2 3 4 5 6 7 8 9 10 x", "params 1 2 3 4 5 6 7 8 9 10 #"} {
		wantError(t, line, 1, api.ErrScriptWord)
	}
	for _, line := range []string{"account", "account 1", "account 1 2 3", "account 1 2 x", "validator", "validator 1 2", "validator 1 2 3 4", "block 1", "block block", "block x"} {
		wantError(t, "params 0 0 0 0 0 0 0 0 0 0\n"+line, 2, api.ErrScriptWord)
	}
	for _, line := range []string{"tx", "tx 1", "tx 1 2", "tx 1 2 3", "tx 1 2 3 x 01", "tx 1 2 3 walk x", "tx 1 2 3 send"} {
		wantError(t, begin+"block\n"+line, 5, api.ErrScriptWord)
	}
	for _, line := range []string{"tx x", "tx 1 2 x", "tx 1 2 send", "tx send", "tx 1 2 01 walk", "tx 1 2 3 send x walk 4 5"} {
		wantError(t, begin+"block\n"+line, 5, api.ErrScriptNumber)
	}
}

// P26.1: an unknown first word is told ahead of where it stands, where it stands ahead of what is behind it.
func TestFirstWords(t *testing.T) {
	for _, word := range []string{"foo", "Params", "PARAMS", "param", "paramss", "0", "-", "send", "double", "accounts", "blocks", "txs", "raws", "/", "params\x00", "ｒaw"} {
		for _, ahead := range []string{"", begin, begin + "block\n"} {
			wantError(t, ahead+word+" x", 1+strings.Count(ahead, "\n"), api.ErrScriptWord)
			wantError(t, ahead+word, 1+strings.Count(ahead, "\n"), api.ErrScriptWord)
		}
	}
}

// right tells a line of each kind that is right, and of some why it isn't.
func right() map[string]string {
	return map[string]string{
		"params": "params 1 2 3 4 5 6 7 8 9 10", "account": "account 1 2", "validator": "validator 1 2 3", "block": "block",
		"tx": "tx 1 2 3 unjail", "fault": "fault down 1 2", "raw": "raw -",
	}
}

// P26.1: which line can stand behind which, all of them; one that can't is ErrScriptOrder, also with other words behind it that can't stand there.
func TestOrder(t *testing.T) {
	heads := map[string]string{"": "", "params": "params", "account": "params account", "validator": "params validator", "later": "params account validator", "block": "params block", "tx": "params block tx", "fault": "params block fault", "raw": "params account block raw"}
	can := map[string]string{
		"": " params ", "params": " account validator block ", "account": " account validator block ", "validator": " validator block ", "later": " validator block ",
		"block": " block tx fault raw ", "tx": " block tx fault raw ", "fault": " block tx fault raw ", "raw": " block tx fault raw ",
	}
	for name, head := range heads {
		var text strings.Builder
		for _, word := range strings.Fields(head) {
			text.WriteString(right()[word] + "\n")
		}
		line := 1 + len(strings.Fields(head))
		for word, x := range right() {
			if strings.Contains(can[name], " "+word+" ") {
				parsed(t, text.String()+x)
				continue
			}
			wantError(t, text.String()+x, line, api.ErrScriptOrder)
			wantError(t, text.String()+word, line, api.ErrScriptOrder)
			wantError(t, text.String()+word+" x x", line, api.ErrScriptOrder)
		}
	}
}

// P26.1: a text without a line params isn't right; if a line isn't, that is told.
func TestNoParams(t *testing.T) {
	for _, text := range []string{"", "\n", "   ", "#", "# params 1 2 3 4 5 6 7 8 9 10", "\n\n\n#\n  \n"} {
		wantError(t, text, 0, api.ErrScriptOrder)
	}
	wantError(t, "\n\nparam\nparams", 3, api.ErrScriptWord)
	wantError(t, "#\nblock", 2, api.ErrScriptOrder)
	wantError(t, "#\nx", 2, api.ErrScriptWord)
}

// P26.1: of several lines that aren't right the first one is told.
func TestFirstLine(t *testing.T) {
	wantError(t, begin+"account 1 1\nfoo\nraw x", 4, api.ErrScriptOrder)
	wantError(t, begin+"foo\naccount 1 1", 4, api.ErrScriptWord)
	wantError(t, begin+"block\nraw x\nfoo", 5, api.ErrScriptNumber)
	wantError(t, "params x\n"+begin, 1, api.ErrScriptNumber)
}

// P26.1: MaxText bytes are taken, one more isn't, whatever they are.
func TestLongTexts(t *testing.T) {
	for _, text := range []string{begin, begin + "block\n", begin + "block\nraw -\n"} {
		for _, pad := range []string{" ", "\n", "#"} {
			full := text + strings.Repeat(pad, api.MaxText-len(text))
			parsed(t, full)
			wantError(t, full+pad, 0, api.ErrScriptLong)
			wantError(t, pad+full, 0, api.ErrScriptLong)
		}
	}
	for _, x := range []string{" ", "x", "\xff", "é"} {
		wantError(t, strings.Repeat(x, api.MaxText+1), 0, api.ErrScriptLong)
	}
	wantError(t, strings.Repeat("é", api.MaxText/2), 1, api.ErrScriptWord)
	wantError(t, strings.Repeat("é", api.MaxText/2)+" ", 0, api.ErrScriptLong)
	wantError(t, "foo"+strings.Repeat("\n", 1<<20), 0, api.ErrScriptLong)
	wantError(t, begin+strings.Repeat("\n", api.MaxText-len(begin)-1)+"x", api.MaxText-len(begin)+3, api.ErrScriptWord)
}

// P26.1: accounts, validators, blocks and items may come as often as there is room for them.
func TestAnyNumber(t *testing.T) {
	text := "params 0 0 0 0 0 0 0 0 0 0\n" + strings.Repeat("account 1 2\n", 2000) + strings.Repeat("validator 3 4 5\n", 1000) + strings.Repeat("block\n", 1500) + strings.Repeat("raw -\n", 2000)
	s := parsed(t, text)
	if len(s.Genesis.Accounts) != 2000 || len(s.Genesis.Vals) != 1000 || len(s.Blocks) != 1500 || len(s.Blocks[1499]) != 2000 || len(s.Blocks[1498]) != 0 {
		t.Fatalf("P26.1: %d, %d, %d", len(s.Genesis.Accounts), len(s.Genesis.Vals), len(s.Blocks))
	}
	if s.Genesis.Accounts[1999] != (api.Purse{Id: 1, Coins: 2}) || s.Genesis.Vals[999] != (api.Founder{Op: 3, Rate: 4, Tokens: 5}) {
		t.Fatalf("P26.1: %v, %v", s.Genesis.Accounts[1999], s.Genesis.Vals[999])
	}
}
