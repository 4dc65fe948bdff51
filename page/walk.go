package page

import (
	"bytes"
	"iter"
	"slices"
)

// Walk gives entries, rising.
func (m *Map) Walk(from, to []byte) iter.Seq2[[]byte, []byte] {
	return copies(m.rising(bytes.Clone(from), bytes.Clone(to)))
}

// Back gives entries, falling.
func (m *Map) Back(from, to []byte) iter.Seq2[[]byte, []byte] {
	return copies(m.falling(bytes.Clone(from), bytes.Clone(to)))
}

// copies gives what a walk does, as memory of its own, since who is handed it may change it.
func copies(walk iter.Seq[entry]) iter.Seq2[[]byte, []byte] {
	return func(yield func([]byte, []byte) bool) {
		for e := range walk {
			if !yield(bytes.Clone(e.key), bytes.Clone(e.value)) {
				return
			}
		}
	}
}

// rising gives the map's own entries, as they lie when it is ranged over.
func (m *Map) rising(from, to []byte) iter.Seq[entry] {
	return func(yield func(entry) bool) {
		for _, page := range m.span(from, to) {
			for _, e := range within(page, from, to) {
				if !yield(e) {
					return
				}
			}
		}
	}
}

// falling gives the same ones from the last one on.
func (m *Map) falling(from, to []byte) iter.Seq[entry] {
	return func(yield func(entry) bool) {
		for _, page := range slices.Backward(m.span(from, to)) {
			for _, e := range slices.Backward(within(page, from, to)) {
				if !yield(e) {
					return
				}
			}
		}
	}
}

// span tells the pages that can have keys within the bounds, so that a walk passes no others.
func (m *Map) span(from, to []byte) [][]entry {
	first, end := m.pageOf(from), len(m.pages)
	if bounds(to) {
		end = min(m.pageOf(to)+1, end)
	}
	return m.pages[first:max(first, end)]
}

// within tells a page's entries within the bounds.
func within(page []entry, from, to []byte) []entry {
	first, _ := placeOf(page, from)
	end := len(page)
	if bounds(to) {
		end, _ = placeOf(page, to)
	}
	return page[first:max(first, end)]
}

// bounds tells whether a walk's end is one: no bytes are none.
func bounds(to []byte) bool { return len(to) > 0 }
