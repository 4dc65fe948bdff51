package enc

import (
	"slices"

	"glean/api"
	"glean/nat"
)

// Reader reads bytes.
type Reader struct {
	state
	rest []byte // what wasn't taken: never changed, as copies of a Reader share it
}

// NewReader makes one.
func NewReader(b []byte) *Reader { return &Reader{rest: slices.Clone(b)} }

// U8 reads one byte.
func (r *Reader) U8() uint8 { return uint8(r.fixed(1)) }

// U32 reads four.
func (r *Reader) U32() uint32 { return uint32(r.fixed(4)) }

// U64 reads eight.
func (r *Reader) U64() uint64 { return r.fixed(8) }

// Bool reads one.
func (r *Reader) Bool() bool { return entire(r, r.truth) }

// Nat reads a whole number.
func (r *Reader) Nat() api.Nat { return entire(r, r.natural) }

// Dec reads a decimal one.
func (r *Reader) Dec() api.Dec { return api.Dec{Raw: r.Nat()} }

// Raw reads bytes, so many at most.
func (r *Reader) Raw(most int) []byte {
	return entire(r, func() ([]byte, api.Errno) { return r.counted(most) })
}

// Left tells how many bytes weren't read.
func (r *Reader) Left() int { return len(r.rest) }

// Err tells the first error.
func (r *Reader) Err() api.Errno { return r.met }

// End tells it, also if something is left.
func (r *Reader) End() api.Errno {
	if r.Left() > 0 {
		r.meet(api.ErrEncMore)
	}
	return r.met
}

// entire reads by a function that is handed on, and gives back what it took, if it met an error on its way.
func entire[T any](r *Reader, read func() (T, api.Errno)) T {
	var none T
	if !r.fine() {
		return none
	}
	ahead := r.rest
	x, e := read()
	if e != api.OK {
		r.rest = ahead
		r.meet(e)
		return none
	}
	return x
}

// fixed reads a number of so many bytes, or 0.
func (r *Reader) fixed(size uint64) uint64 {
	return entire(r, func() (uint64, api.Errno) { return r.number(size) })
}

// truth takes a byte that Bool lays.
func (r *Reader) truth() (bool, api.Errno) {
	x, e := r.number(1)
	if e == api.OK && x > 1 {
		e = api.ErrEncForm
	}
	return x == 1, e
}

// natural takes a count and the digits that it tells, and puts them together.
func (r *Reader) natural() (api.Nat, api.Errno) {
	count, e := r.number(1)
	if e != api.OK {
		return nil, e
	}
	digits, e := r.take(count)
	if e != api.OK {
		return nil, e
	}
	n, e := nat.FromBytes(digits)
	if e != api.OK {
		return nil, api.ErrEncForm
	}
	return n, api.OK
}

// counted takes a length that isn't above most, and as many bytes.
func (r *Reader) counted(most int) ([]byte, api.Errno) {
	length, e := r.number(4)
	if e != api.OK {
		return nil, e
	}
	if most < 0 || length > uint64(most) {
		return nil, api.ErrEncLong
	}
	b, e := r.take(length)
	return slices.Clone(b), e
}

// number takes a number of so many bytes, the highest first.
func (r *Reader) number(size uint64) (uint64, api.Errno) {
	digits, e := r.take(size)
	var x uint64
	for _, digit := range digits {
		x = x<<8 | uint64(digit)
	}
	return x, e
}

// take takes so many bytes; they are the Reader's own, so that they aren't handed out.
func (r *Reader) take(n uint64) ([]byte, api.Errno) {
	if n > uint64(len(r.rest)) {
		return nil, api.ErrEncShort
	}
	b := r.rest[:n:n]
	r.rest = r.rest[n:]
	return b, api.OK
}
