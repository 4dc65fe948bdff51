package enc

import (
	"glean/api"
	"glean/nat"
)

// room: how many bytes a Writer gathers before it puts them away; the longest Nat has as many.
const room = 256

// piece: bytes that were put away, and the piece ahead of them. It is never changed, as copies of a Writer may hang on it.
type piece struct {
	ahead *piece
	bytes [room]byte
}

// Writer lays bytes. The latest ones stand in an array of its own, not in a list that grows, so that a copy of a Writer goes on by itself.
type Writer struct {
	state
	last   *piece
	away   int // how many bytes the pieces have
	latest [room]byte
	used   int
}

// U8 lays one byte.
func (w *Writer) U8(x uint8) { w.number(uint64(x), 1) }

// U32 lays four.
func (w *Writer) U32(x uint32) { w.number(uint64(x), 4) }

// U64 lays eight.
func (w *Writer) U64(x uint64) { w.number(x, 8) }

// Bool lays one.
func (w *Writer) Bool(x bool) {
	if x {
		w.U8(1)
	} else {
		w.U8(0)
	}
}

// Nat lays a whole number.
func (w *Writer) Nat(n api.Nat) { w.counted(nat.Bytes(n), 1) }

// Dec lays a decimal one.
func (w *Writer) Dec(d api.Dec) { w.Nat(d.Raw) }

// Raw lays bytes, and how many they are.
func (w *Writer) Raw(b []byte) { w.counted(b, 4) }

// Out tells all that was laid.
func (w *Writer) Out() ([]byte, api.Errno) {
	if !w.fine() {
		return nil, w.met
	}
	all := make([]byte, w.away+w.used)
	copy(all[w.away:], w.latest[:w.used])
	at := w.away
	for p := w.last; p != nil; p = p.ahead {
		at -= room
		copy(all[at:], p.bytes[:])
	}
	return all, api.OK
}

// counted lays b behind its length, which has so many bytes.
func (w *Writer) counted(b []byte, size int) {
	length := uint64(len(b))
	if length>>(8*size) != 0 {
		w.meet(api.ErrEncLong)
		return
	}
	w.number(length, size)
	w.lay(b)
}

// number lays x in so many bytes, the highest first.
func (w *Writer) number(x uint64, size int) {
	var digits [8]byte
	for i := range size {
		digits[i] = byte(x >> (8 * (size - 1 - i)))
	}
	w.lay(digits[:size])
}

// lay puts b behind all that was laid, unless an error was met.
func (w *Writer) lay(b []byte) {
	for w.fine() && len(b) > 0 {
		n := copy(w.latest[w.used:], b)
		w.used += n
		b = b[n:]
		if w.used == room {
			w.putAway()
		}
	}
}

// putAway makes a piece of the latest bytes.
func (w *Writer) putAway() {
	w.last = &piece{w.last, w.latest}
	w.away += room
	w.used = 0
}
