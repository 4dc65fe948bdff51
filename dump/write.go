package dump

import (
	"iter"

	"glean/api"
	"glean/enc"
)

// mark: how the bytes of a dump begin.
const mark = 0x474C4E44

// Of how many bytes the mark and the count are together, and both lengths of an entry.
const (
	headSize    = 8
	lengthsSize = 8
)

// count tells how many entries there are, and whether a dump has room for them all. It goes no further than to the first one that has none, so that a great store takes no time.
func count(all iter.Seq2[[]byte, []byte]) (n uint32, fit bool) {
	size := headSize
	for k, v := range all {
		size += lengthsSize + len(k) + len(v)
		if size > api.MaxDump {
			return 0, false
		}
		n++
	}
	return n, true
}

// lay tells the bytes of n entries.
func lay(n uint32, all iter.Seq2[[]byte, []byte]) []byte {
	var w enc.Writer
	w.U32(mark)
	w.U32(n)
	for k, v := range all {
		w.Raw(k)
		w.Raw(v)
	}
	b, _ := w.Out() // there is no error: what a store holds is short enough
	return b
}
