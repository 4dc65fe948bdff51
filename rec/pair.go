package rec

import (
	"glean/api"
	"glean/enc"
)

// put lays a record, as a function goes through its fields. The record is the call's own copy: the fields are handed on by their places.
func put[T any](record T, through func(*T, hands)) []byte {
	var w enc.Writer
	through(&record, hands{
		number:  func(x *uint64) { w.U64(*x) },
		truth:   func(x *bool) { w.Bool(*x) },
		decimal: func(x *api.Dec) { w.Dec(fitting(*x)) },
	})
	b, _ := w.Out() // there is no error: every Dec fits
	return b
}

// read reads a record, as the same function goes through its fields. An error of the Reader stays, so that it is asked once, at the end.
func read[T any](b []byte, through func(*T, hands)) (T, api.Errno) {
	var record, none T
	r := enc.NewReader(b)
	through(&record, hands{
		number:  func(x *uint64) { *x = r.U64() },
		truth:   func(x *bool) { *x = r.Bool() },
		decimal: func(x *api.Dec) { *x = r.Dec() },
	})
	if r.End() != api.OK {
		return none, api.ErrRecForm
	}
	return record, api.OK
}

// fitting tells a Dec, or 0 for one that is too long. A Writer of its own is asked, as the error would stay in the record's.
func fitting(d api.Dec) api.Dec {
	var alone enc.Writer
	alone.Dec(d)
	if _, e := alone.Out(); e != api.OK {
		return api.Dec{}
	}
	return d
}
