package genesis

import (
	"glean/api"
	"glean/enc"
)

// mark: how the bytes of a genesis begin.
const mark = 0x474C4E31

// fieldsOf tells the places of params' fields, in the order in which they are laid and read.
func fieldsOf(p *api.Params) [10]*uint64 {
	return [...]*uint64{&p.Max, &p.Unbond, &p.Entries, &p.Tax, &p.Double, &p.Down, &p.Jail, &p.Age, &p.Fee, &p.Keeper}
}

// writer lays the parts of a genesis.
type writer struct{ enc.Writer }

func (w *writer) params(p api.Params) {
	for _, x := range fieldsOf(&p) {
		w.U64(*x)
	}
}

func (w *writer) purse(p api.Purse) {
	w.U64(p.Id)
	w.U64(p.Coins)
}

func (w *writer) founder(f api.Founder) {
	w.U64(f.Op)
	w.U64(f.Rate)
	w.U64(f.Tokens)
}

// layList lays how many there are, and each of them.
func layList[T any](w *writer, list []T, one func(T)) {
	w.U32(uint32(len(list)))
	for _, x := range list {
		one(x)
	}
}

// reader reads the parts of a genesis; what is missing counts as 0, so that it needs to be asked once, at the end.
type reader struct {
	*enc.Reader
	wrong bool // whether something was read that no genesis within the limits has
}

func newReader(b []byte) *reader { return &reader{Reader: enc.NewReader(b)} }

// refuse keeps what was wrong.
func (r *reader) refuse(wrong bool) { r.wrong = r.wrong || wrong }

// whole tells whether all that was read is one genesis, and nothing is left.
func (r *reader) whole() bool { return r.End() == api.OK && !r.wrong }

func (r *reader) head() { r.refuse(r.U32() != mark) }

func (r *reader) params() (p api.Params) {
	for _, x := range fieldsOf(&p) {
		*x = r.U64()
	}
	return p
}

func (r *reader) purse() (p api.Purse) {
	p.Id = r.U64()
	p.Coins = r.U64()
	return p
}

func (r *reader) founder() (f api.Founder) {
	f.Op = r.U64()
	f.Rate = r.U64()
	f.Tokens = r.U64()
	return f
}

// readList reads how many there are, and each of them; of more than may be none, as the count alone would tell how much memory they take.
func readList[T any](r *reader, most uint32, one func() T) []T {
	n := r.U32()
	if n > most {
		r.refuse(true)
		return nil
	}
	list := make([]T, n)
	for i := range list {
		list[i] = one()
	}
	return list
}
