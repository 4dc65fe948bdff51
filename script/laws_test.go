package script_test

import (
	"fmt"
	"math/big"
	"math/rand"
	"slices"
	"strings"
	"testing"

	"glean/api"
	"glean/app"
	"glean/bank"
	"glean/dist"
	"glean/genesis"
	"glean/script"
)

// dec tells a Dec's text by its value's definition.
func dec(d api.Dec) string {
	raw := new(big.Int)
	for _, limb := range slices.Backward(d.Raw) {
		raw.Lsh(raw, 64).Or(raw, new(big.Int).SetUint64(limb))
	}
	text := fmt.Sprintf("%037s", raw)
	whole, places := text[:len(text)-36], strings.TrimRight(text[len(text)-36:], "0")
	return strings.TrimSuffix(whole+"."+places, ".")
}

// toldOf tells what comes of a report, as the chapter says.
func toldOf(r api.Report) string {
	text := fmt.Sprintf("block %d\n", r.Height)
	for _, g := range r.Gave {
		text += fmt.Sprintf("gave %d %s\n", g.Val, dec(g.Q))
	}
	for _, x := range r.Replies {
		if x.Err != 0 {
			text += fmt.Sprintf("err %d\n", int(x.Err))
			continue
		}
		text += fmt.Sprintf("ok %d %s", x.N, dec(x.Shares))
		for _, p := range x.Paid {
			text += fmt.Sprintf(" %d %d %d %s", p.Val, p.Del, p.W, dec(p.Q))
		}
		text += "\n"
	}
	for _, m := range r.Matured {
		text += fmt.Sprintf("due %d %d\n", m.Id, m.Kind)
	}
	for _, id := range r.Went {
		text += fmt.Sprintf("went %d\n", id)
	}
	for _, id := range r.Came {
		text += fmt.Sprintf("came %d\n", id)
	}
	return text
}

// played tells what comes of a script, of an engine that is asked here.
func played(t *testing.T, s api.Script) string {
	t.Helper()
	store, e := genesis.Make(genesis.Encode(s.Genesis))
	if e != api.OK {
		t.Fatalf("P21.3: %v", e)
	}
	engine, e := app.New(store)
	if e != api.OK {
		t.Fatalf("P20.1: %v", e)
	}
	text := ""
	for _, items := range s.Blocks {
		if report, e := engine.Block(items); e == api.OK {
			text += toldOf(report)
		} else {
			text += fmt.Sprintf("refused %d\n", int(e))
		}
	}
	return text + fmt.Sprintf("coins %s\npool %s\n", whole(bank.Sum(engine.Store())), dec(dist.Pool(engine.Store())))
}

// whole tells a Nat's text.
func whole(n api.Nat) string {
	if len(n) == 0 {
		return "0"
	}
	return fmt.Sprint(n[0]) // a chain's coins are below 2^64
}

// drawnChain draws a text that can be played, in which most messages can be done.
func drawnChain(r *rand.Rand) string {
	var text strings.Builder
	fmt.Fprintf(&text, "params %d %d %d %d %d %d %d 9 1 16\n", 1+r.Intn(3), 1+r.Intn(4), 1+r.Intn(5), 333*r.Intn(4), 5000*r.Intn(3), 777*r.Intn(4), r.Intn(3))
	for id := range 4 {
		fmt.Fprintf(&text, "account %d %d\n", 16+id, 100000+r.Intn(100000))
	}
	for id := range 1 + r.Intn(3) {
		fmt.Fprintf(&text, "validator %d %d %d\n", 16+id, 333*r.Intn(4), 1+r.Intn(1000))
	}
	seqs := map[int]int{}
	for height := range r.Intn(20) {
		text.WriteString("block\n")
		for range r.Intn(5) {
			fmt.Fprintln(&text, drawnDeed(r, height+1, seqs))
		}
		if r.Intn(30) == 0 {
			text.WriteString(strings.Repeat("raw 00\n", 257))
		}
	}
	return text.String()
}

// drawnDeed draws an item's line that may be done.
func drawnDeed(r *rand.Rand, height int, seqs map[int]int) string {
	user, val := func() int { return 16 + r.Intn(4) }, 16+r.Intn(3)
	switch r.Intn(12) {
	case 0:
		return fmt.Sprintf("fault %s %d %d", []string{"down", "double", "7"}[r.Intn(3)], val, r.Intn(height+1))
	case 1:
		return "raw " + drawnHex(r)
	}
	n := r.Intn(1000)
	m := []string{
		fmt.Sprintf("send %d %d", user(), n), fmt.Sprintf("create 500 %d", n), fmt.Sprintf("delegate %d %d", val, n), fmt.Sprintf("delegate %d %d", val, n), fmt.Sprintf("undelegate %d %d", val, n/4), fmt.Sprintf("redelegate %d %d %d", val, 16+r.Intn(3), n/4),
		fmt.Sprintf("withdraw %d", val), "commission", "unjail", fmt.Sprintf("fund %d", n), fmt.Sprintf("spend %d %d", user(), n),
	}[r.Intn(11)]
	sender := user()
	seqs[sender]++
	return fmt.Sprintf("tx %d %d %d %s", sender, seqs[sender]-1, 1+n, m)
}

// P26.3: what comes of drawn chains is what an engine's reports say.
func TestDrawnPlays(t *testing.T) {
	r := rand.New(rand.NewSource(2602))
	met := map[string]int{}
	for range 400 {
		s := parsed(t, drawnChain(r))
		got, e := script.Play(s)
		if want := played(t, s); e != api.OK || got != want {
			t.Fatalf("P26.3: %v, %q, not %q", e, got, want)
		}
		for _, line := range strings.Split(got, "\n") {
			word, _, _ := strings.Cut(line, " ")
			met[word]++
		}
	}
	for _, word := range []string{"block", "refused", "gave", "ok", "err", "due", "went", "came"} {
		if met[word] < 40 {
			t.Errorf("the drawn chains have %d lines %s", met[word], word)
		}
	}
}

// drawnItem draws bytes that are an item, or nearly one.
func drawnItem(r *rand.Rand) []byte {
	b := make([]byte, r.Intn(60))
	r.Read(b)
	switch r.Intn(4) {
	case 0:
		b = fault(byte(r.Intn(4)), drawnNumber(r), drawnNumber(r))
	case 1:
		b = tx(drawnNumber(r), drawnNumber(r), drawnNumber(r), byte(r.Intn(12)), []uint64{drawnNumber(r), drawnNumber(r), drawnNumber(r)}[:r.Intn(4)]...)
	}
	if r.Intn(6) == 0 && len(b) > 0 {
		b[r.Intn(len(b))] ^= 1 << r.Intn(8)
	}
	return b
}

// drawnScript draws any script.
func drawnScript(r *rand.Rand) api.Script {
	n := func() uint64 { return drawnNumber(r) }
	s := api.Script{Genesis: api.Genesis{Params: api.Params{Max: n(), Unbond: n(), Entries: n(), Tax: n(), Double: n(), Down: n(), Jail: n(), Age: n(), Fee: n(), Keeper: n()}}}
	for range r.Intn(4) {
		s.Genesis.Accounts = append(s.Genesis.Accounts, api.Purse{Id: n(), Coins: n()})
	}
	for range r.Intn(4) {
		s.Genesis.Vals = append(s.Genesis.Vals, api.Founder{Op: n(), Rate: n(), Tokens: n()})
	}
	for range r.Intn(4) {
		var items [][]byte
		for range r.Intn(6) {
			items = append(items, drawnItem(r))
		}
		s.Blocks = append(s.Blocks, items)
	}
	return s
}

// P26.4: Parse(Print(s)) is s, whatever it holds; what Print tells is what another reading reads, too.
func TestThereAndBack(t *testing.T) {
	r := rand.New(rand.NewSource(2603))
	for range 4000 {
		s := drawnScript(r)
		text := script.Print(s)
		wantParse(t, text, s)
		if m := modelOf(text); m.err != api.OK || !sameScript(m.s, s) {
			t.Fatalf("P26.2: %q", text)
		}
		wantPrint(t, parsed(t, text), text)
	}
}

// P26.4: also of the most accounts and founders, and of a text of MaxText bytes.
func TestThereAndBackAtTheEdges(t *testing.T) {
	s := api.Script{Genesis: api.Genesis{Accounts: make([]api.Purse, api.MaxPurses), Vals: make([]api.Founder, api.MaxFounders)}}
	for i := range s.Genesis.Accounts {
		s.Genesis.Accounts[i] = api.Purse{Id: top, Coins: top}
	}
	s.Blocks = [][][]byte{{nil}}
	left := api.MaxText - len(script.Print(s))
	s.Blocks[0][0] = make([]byte, (left+1)/2)
	if (left+1)%2 == 1 {
		s.Genesis.Params.Max = 10
	}
	text := script.Print(s)
	if len(text) != api.MaxText {
		t.Fatalf("%d bytes", len(text))
	}
	wantParse(t, text, s)
	s.Genesis.Params.Unbond = 10
	wantError(t, script.Print(s), 0, api.ErrScriptLong)
}
