package script

import (
	"errors"
	"strings"

	"glean/api"
)

// place: of a line in a text.
type place int

const (
	nowhere place = iota
	atParams
	atAccounts
	atValidators
	atBlocks
	inBlock
)

// placeOf tells where a line stands by its first word, which falls through as many cases as there are places up to there.
func placeOf(word string) place {
	at := nowhere
	switch word {
	case "tx", "fault", "raw":
		at++
		fallthrough
	case "block":
		at++
		fallthrough
	case "validator":
		at++
		fallthrough
	case "account":
		at++
		fallthrough
	case "params":
		at++
	}
	return at
}

// leadsTo tells whether a line of that next place can stand right behind one of this place.
func (p place) leadsTo(next place) bool {
	switch next {
	case atParams:
		return p == nowhere
	case atBlocks: // also behind a block's items
		return p >= atParams
	case inBlock:
		return p >= atBlocks
	}
	return p >= atParams && p <= next
}

// inLine wraps an error's number with the line in which it was met.
func inLine(line int, err error) error {
	wrapped := &api.LineError{Line: line}
	errors.As(err, &wrapped.Err)
	return wrapped
}

// reader: what the lines have told so far.
type reader struct {
	script  api.Script
	reached place
}

// line reads a line, if it says something.
func (r *reader) line(words []string) error {
	if len(words) == 0 || strings.HasPrefix(words[0], "#") {
		return nil
	}
	next := placeOf(words[0])
	switch {
	case next == nowhere:
		return api.ErrScriptWord
	case !r.reached.leadsTo(next):
		return api.ErrScriptOrder
	}
	r.reached = next
	rest := &list{words: words[1:]}
	if next == inBlock {
		r.item(words[0], rest)
	} else {
		r.thing(words[0], rest)
	}
	return rest.end()
}

// thing reads a line of the beginning, or one that begins a block.
func (r *reader) thing(word string, rest *list) {
	g := &r.script.Genesis
	switch word {
	case "params":
		rest.numbers(paramsOf(&g.Params))
	case "account":
		g.Accounts = append(g.Accounts, api.Purse{Id: rest.number(), Coins: rest.number()})
	case "validator":
		g.Vals = append(g.Vals, api.Founder{Op: rest.number(), Rate: rest.number(), Tokens: rest.number()})
	case "block":
		r.script.Blocks = append(r.script.Blocks, nil)
	}
}

// item reads a line of the latest block.
func (r *reader) item(word string, rest *list) {
	var item []byte
	switch word {
	case "tx":
		item = rest.tx()
	case "fault":
		item = rest.fault()
	case "raw":
		item = take(rest, hex)
	}
	latest := &r.script.Blocks[len(r.script.Blocks)-1]
	*latest = append(*latest, item)
}
