package dump

import (
	"bytes"
	"iter"

	"glean/api"
	"glean/enc"
	"glean/kv"
)

// read tells the store of bytes, be it sound or not.
func read(b []byte) (*kv.Store, api.Errno) {
	if len(b) > api.MaxDump {
		return nil, api.ErrDumpLong
	}
	r := reader{left: b}
	r.refuse(r.number() != mark)
	s, ahead := kv.New(), []byte(nil)
	for k, v := range r.entries() {
		r.refuse(bytes.Compare(k, ahead) <= 0 || s.Set(k, v) != api.OK)
		ahead = k
	}
	if r.wrong || len(r.left) > 0 {
		return nil, api.ErrDumpForm
	}
	return s.Copy(), api.OK // what was laid counts among a store's operations, but not among its copy's
}

// reader cuts the bytes of a dump, from their beginning on.
type reader struct {
	left  []byte
	wrong bool // whether something was met that no dump has
}

// refuse keeps what was wrong.
func (r *reader) refuse(wrong bool) { r.wrong = r.wrong || wrong }

// entries gives keys and values, as many as the count tells, or up to what is wrong: the count alone may tell of more than there is.
func (r *reader) entries() iter.Seq2[[]byte, []byte] {
	return func(yield func([]byte, []byte) bool) {
		for range r.number() {
			k := r.raw()
			v := r.raw()
			if r.wrong || !yield(k, v) {
				return
			}
		}
	}
}

// raw cuts off what Raw lays: a length, and as many bytes.
func (r *reader) raw() []byte { return r.cut(r.number()) }

// number cuts off what U32 lays; it is 0, if that isn't there.
func (r *reader) number() uint32 { return enc.NewReader(r.cut(4)).U32() }

// cut cuts off the first bytes, none if there aren't so many. They are the caller's, and so is what lies behind them: the third index keeps that out of reach.
func (r *reader) cut(n uint32) []byte {
	if uint64(n) > uint64(len(r.left)) {
		r.refuse(true)
		return nil
	}
	first := r.left[:n:n]
	r.left = r.left[n:]
	return first
}
