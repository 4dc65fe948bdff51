package page

import (
	"slices"

	"glean/api"
)

// half: how many entries the first one of two has when a page becomes two, and how many two have at most when they become one.
const half = api.MaxPage / 2

// insert lays a new entry at a place that find told.
func (m *Map) insert(page, place int, e entry) {
	if len(m.pages) == 0 {
		m.pages = append(m.pages, nil)
	}
	m.pages[page] = slices.Insert(m.pages[page], place, e)
	if len(m.pages[page]) > api.MaxPage {
		m.split(page)
	}
}

// remove takes an entry away, and its page, or joins that to a neighbour, the one behind it first.
func (m *Map) remove(page, place int) {
	m.pages[page] = slices.Delete(m.pages[page], place, place+1)
	switch {
	case len(m.pages[page]) == 0:
		m.pages = slices.Delete(m.pages, page, page+1)
	case m.joinable(page):
		m.join(page)
	case m.joinable(page - 1):
		m.join(page - 1)
	}
}

// split makes two of a page; both are new lists, so that neither grows into the other one.
func (m *Map) split(page int) {
	whole := m.pages[page]
	m.pages[page] = slices.Clone(whole[:half])
	m.pages = slices.Insert(m.pages, page+1, slices.Clone(whole[half:]))
}

// joinable tells whether there is such a page, and one behind it, with few enough entries together.
func (m *Map) joinable(page int) bool {
	return page >= 0 && page+1 < len(m.pages) && len(m.pages[page])+len(m.pages[page+1]) <= half
}

// join makes one of a page and the one behind it.
func (m *Map) join(page int) {
	m.pages[page] = slices.Concat(m.pages[page], m.pages[page+1])
	m.pages = slices.Delete(m.pages, page+1, page+2)
}
