package script_test

import (
	"fmt"
	"math/rand"
	"strings"
	"testing"

	"glean/api"
	"glean/script"
)

// drawnNumber draws a number: small, at the edge of 64 bits, or anywhere.
func drawnNumber(r *rand.Rand) uint64 {
	switch r.Intn(4) {
	case 0:
		return uint64(r.Intn(12))
	case 1:
		return top - uint64(r.Intn(3))
	}
	return r.Uint64() >> r.Intn(64)
}

// drawnNumbers draws so many, as words.
func drawnNumbers(r *rand.Rand, n int) string {
	var words []string
	for range n {
		words = append(words, fmt.Sprint(drawnNumber(r)))
	}
	return strings.Join(words, " ")
}

// drawnHex draws a hex.
func drawnHex(r *rand.Rand) string {
	b := make([]byte, r.Intn(40))
	r.Read(b)
	if len(b) == 0 {
		return "-"
	}
	return fmt.Sprintf("%x", b)
}

// drawnItemLine draws an item's line.
func drawnItemLine(r *rand.Rand) string {
	switch r.Intn(4) {
	case 0:
		return "raw " + drawnHex(r)
	case 1:
		return "fault " + []string{"double", "down", fmt.Sprint(r.Intn(256))}[r.Intn(3)] + " " + drawnNumbers(r, 2)
	}
	m := []string{"send nn", "create nn", "delegate nn", "undelegate nn", "redelegate nnn", "withdraw n", "commission ", "unjail ", "fund n", "spend nn"}[r.Intn(10)]
	name, uses, _ := strings.Cut(m, " ")
	return "tx " + drawnNumbers(r, 3) + " " + name + " " + drawnNumbers(r, len(uses))
}

// drawnLines draws the lines of a text that is right, without blanks that needn't be.
func drawnLines(r *rand.Rand) []string {
	lines := []string{"params " + drawnNumbers(r, 10)}
	for range r.Intn(4) {
		lines = append(lines, "account "+drawnNumbers(r, 2))
	}
	for range r.Intn(3) {
		lines = append(lines, "validator "+drawnNumbers(r, 3))
	}
	for range r.Intn(4) {
		lines = append(lines, "block")
		for range r.Intn(4) {
			lines = append(lines, strings.TrimSpace(drawnItemLine(r)))
		}
	}
	return lines
}

// drawnWord draws a word that may stand anywhere, or nowhere.
func drawnWord(r *rand.Rand) string {
	all := []string{"params", "account", "validator", "block", "tx", "fault", "raw", "send", "redelegate", "unjail", "double", "down", "-", "#", "#x", "0", "00", "01", "1", "255", "256", "ff", "0f", "f", "FF", "x", "\t", "é", "18446744073709551615", "18446744073709551616", "99999999999999999999"}
	return all[r.Intn(len(all))]
}

// spoilt tells lines of which something is changed: a line, a word or a byte.
func spoilt(r *rand.Rand, lines []string) []string {
	i := r.Intn(len(lines))
	words := strings.Fields(lines[i])
	k := r.Intn(len(words))
	switch r.Intn(9) {
	case 0:
		return append(lines[:i:i], lines[i+1:]...)
	case 1:
		j := r.Intn(len(lines))
		lines[i], lines[j] = lines[j], lines[i]
		return lines
	case 2:
		return append(append(append([]string{}, lines[:i]...), lines[i]), lines[i:]...)
	case 3:
		words[k] = drawnWord(r)
	case 4:
		words = append(words[:k:k], words[k+1:]...)
	case 5:
		words = append(words, drawnWord(r))
	case 6:
		words[k] = words[k][:r.Intn(len(words[k]))] + string(rune(32+r.Intn(96))) + words[k][r.Intn(len(words[k])):]
	case 7:
		words = words[:k]
	case 8:
		words = append([]string{drawnWord(r)}, words...)
	}
	lines[i] = strings.Join(words, " ")
	return lines
}

// loose tells a text of lines with blanks and lines between that say nothing.
func loose(r *rand.Rand, lines []string) string {
	var text strings.Builder
	for _, x := range lines {
		if r.Intn(4) == 0 {
			text.WriteString([]string{"\n", "#\n", "  # params\n", "   \n"}[r.Intn(4)])
		}
		x = strings.ReplaceAll(x, " ", strings.Repeat(" ", 1+r.Intn(3)))
		text.WriteString(strings.Repeat(" ", r.Intn(3)) + x + strings.Repeat(" ", r.Intn(3)) + "\n")
	}
	return strings.TrimSuffix(text.String(), []string{"\n", ""}[r.Intn(2)])
}

// P26.1, P26.2, P26.4: drawn texts, most of which aren't right, are what another reading tells; of those that are right the text and the script are one another's.
func TestDrawnTexts(t *testing.T) {
	r := rand.New(rand.NewSource(2600))
	met := map[api.Errno]int{}
	for range 8000 {
		lines := drawnLines(r)
		plain := strings.Join(lines, "\n") + "\n"
		for range r.Intn(3) {
			if len(lines) > 0 && strings.TrimSpace(strings.Join(lines, "")) != "" {
				lines = spoilt(r, keepSaid(lines))
				plain = ""
			}
		}
		text := loose(r, lines)
		want := modelOf(text)
		met[want.err]++
		if want.err != api.OK {
			wantError(t, text, want.line, want.err)
			continue
		}
		wantParse(t, text, want.s)
		printed := script.Print(want.s)
		wantParse(t, printed, want.s)
		if plain != "" && !strings.Contains(plain, "fault 1 ") && !strings.Contains(plain, "fault 2 ") {
			wantPrint(t, want.s, plain)
		}
	}
	for _, e := range []api.Errno{api.OK, api.ErrScriptWord, api.ErrScriptNumber, api.ErrScriptOrder} {
		if met[e] < 400 {
			t.Errorf("the drawn texts have %d of error %d", met[e], e)
		}
	}
}

// keepSaid tells the lines that have words.
func keepSaid(lines []string) []string {
	var said []string
	for _, x := range lines {
		if strings.TrimSpace(x) != "" {
			said = append(said, x)
		}
	}
	return said
}

// P26.1: bytes that were drawn are a text like others.
func TestDrawnBytes(t *testing.T) {
	r := rand.New(rand.NewSource(2601))
	for range 5000 {
		b := make([]byte, r.Intn(200))
		for i := range b {
			b[i] = " \n#0a-x\xff\x00é"[r.Intn(11)]
		}
		text := string(b)
		if r.Intn(2) == 0 {
			text = begin + "block\nraw " + text
		}
		if want := modelOf(text); want.err == api.OK {
			wantParse(t, text, want.s)
		} else {
			wantError(t, text, want.line, want.err)
		}
	}
}
