package script_test

import (
	"encoding/hex"
	"math/big"
	"regexp"
	"strings"

	"glean/api"
)

// model: what another reading of a text tells, by none of the project's calls.
type model struct {
	s    api.Script
	line int
	err  api.Errno
}

// number tells whether a word is one, and which.
func modelNumber(word string) (uint64, bool) {
	if !regexp.MustCompile(`^(?:0|[1-9][0-9]*)$`).MatchString(word) {
		return 0, false
	}
	n, _ := new(big.Int).SetString(word, 10)
	return n.Uint64(), n.BitLen() <= 64
}

// form tells what words stand behind a first one: n a number, k a fault's kind, h a hex, m a message; of a first word that there isn't, false.
func form(word string) (string, bool) {
	f, ok := map[string]string{"params": "nnnnnnnnnn", "account": "nn", "validator": "nnn", "block": "", "tx": "nnnm", "fault": "knn", "raw": "h"}[word]
	return f, ok
}

// modelMessage tells a message's kind, and how many numbers it uses.
func modelMessage(word string) (byte, string, bool) {
	for i, m := range []string{"send nn", "create nn", "delegate nn", "undelegate nn", "redelegate nnn", "withdraw n", "commission ", "unjail ", "fund n", "spend nn"} {
		if name, uses, _ := strings.Cut(m, " "); name == word {
			return byte(i + 1), uses, true
		}
	}
	return 0, "", false
}

// told: what words tell that were read by their form.
type told struct {
	n     []uint64
	kind  byte
	bytes []byte
}

// modelWords reads the words behind a first one.
func modelWords(words []string, f string) (told, api.Errno) {
	var x told
	for ; f != ""; f = f[1:] {
		if len(words) == 0 {
			return x, api.ErrScriptWord
		}
		word := words[0]
		words = words[1:]
		n, isNumber := modelNumber(word)
		switch f[0] {
		case 'n':
			if !isNumber {
				return x, api.ErrScriptNumber
			}
			x.n = append(x.n, n)
		case 'k':
			switch {
			case word == "double":
				n = 1
			case word == "down":
				n = 2
			case !isNumber || n > 255:
				return x, api.ErrScriptNumber
			}
			x.kind = byte(n)
		case 'h':
			b, err := hex.DecodeString(word)
			if word != "-" && (err != nil || strings.ToLower(word) != word) {
				return x, api.ErrScriptNumber
			}
			x.bytes = b
		case 'm':
			kind, uses, ok := modelMessage(word)
			if !ok {
				return x, api.ErrScriptWord
			}
			x.kind, f = kind, f+uses
		}
	}
	if len(words) > 0 {
		return x, api.ErrScriptWord
	}
	return x, 0
}

// modelOf reads a text; what has been said so far is kept as a word of one letter a line.
func modelOf(text string) model {
	if len(text) > 65536 {
		return model{err: api.ErrScriptLong}
	}
	var m model
	said, order := "", regexp.MustCompile(`^pa*v*(b[tfr]*)*$`)
	for i, line := range strings.Split(text, "\n") {
		words := regexp.MustCompile(`[^ ]+`).FindAllString(line, -1)
		if len(words) == 0 || words[0][0] == '#' {
			continue
		}
		f, ok := form(words[0])
		if !ok {
			return model{line: i + 1, err: api.ErrScriptWord}
		}
		said += words[0][:1]
		if !order.MatchString(said) {
			return model{line: i + 1, err: api.ErrScriptOrder}
		}
		x, e := modelWords(words[1:], f)
		if e != 0 {
			return model{line: i + 1, err: e}
		}
		m.lay(words[0], x)
	}
	if said == "" {
		return model{err: api.ErrScriptOrder}
	}
	return m
}

// lay lays what a line tells.
func (m *model) lay(word string, x told) {
	g := &m.s.Genesis
	switch word {
	case "params":
		g.Params = api.Params{Max: x.n[0], Unbond: x.n[1], Entries: x.n[2], Tax: x.n[3], Double: x.n[4], Down: x.n[5], Jail: x.n[6], Age: x.n[7], Fee: x.n[8], Keeper: x.n[9]}
		return
	case "account":
		g.Accounts = append(g.Accounts, api.Purse{Id: x.n[0], Coins: x.n[1]})
		return
	case "validator":
		g.Vals = append(g.Vals, api.Founder{Op: x.n[0], Rate: x.n[1], Tokens: x.n[2]})
		return
	case "block":
		m.s.Blocks = append(m.s.Blocks, nil)
		return
	case "tx":
		x.bytes = tx(x.n[0], x.n[1], x.n[2], x.kind, x.n[3:]...)
	case "fault":
		x.bytes = fault(x.kind, x.n[0], x.n[1])
	}
	last := len(m.s.Blocks) - 1
	m.s.Blocks[last] = append(m.s.Blocks[last], x.bytes)
}
