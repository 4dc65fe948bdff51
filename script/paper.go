package script

import (
	"strconv"
	"strings"

	"glean/api"
	"glean/dec"
)

// words of a line that is to be written.
type words []string

// numbers goes on by numbers.
func (w words) numbers(all ...uint64) words {
	for _, n := range all {
		w = append(w, strconv.FormatUint(n, 10))
	}
	return w
}

// places goes on by the numbers that lie at some places.
func (w words) places(all []*uint64) words {
	for _, p := range all {
		w = w.numbers(*p)
	}
	return w
}

// dec goes on by a Dec.
func (w words) dec(d api.Dec) words { return append(w, dec.Text(d)) }

// errno goes on by an error's number.
func (w words) errno(e api.Errno) words { return append(w, strconv.Itoa(int(e))) }

// paper: a text that grows line by line.
type paper struct{ text strings.Builder }

// line writes a line.
func (p *paper) line(w words) {
	p.text.WriteString(strings.Join(w, " "))
	p.text.WriteByte('\n')
}
