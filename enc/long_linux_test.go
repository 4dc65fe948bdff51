package enc_test

import (
	"strconv"
	"syscall"
	"testing"

	"glean/api"
	"glean/enc"
)

// untouched maps so many bytes that are noughts; they take no memory as long as nobody looks at them, which a list that Go makes doesn't grant.
func untouched(t *testing.T, n uint64) []byte {
	if strconv.IntSize < 64 {
		t.Skip("no list is as long")
	}
	b, err := syscall.Mmap(-1, 0, int(n), syscall.PROT_READ, syscall.MAP_ANON|syscall.MAP_PRIVATE|syscall.MAP_NORESERVE)
	if err != nil {
		t.Skip("no room: ", err)
	}
	t.Cleanup(func() { syscall.Munmap(b) })
	return b
}

// P4.1: 2^32 bytes of a Raw, and more.
func TestLongRaw(t *testing.T) {
	b := untouched(t, 1<<32+5)
	for _, n := range []uint64{1 << 32, 1<<32 + 5} {
		var w enc.Writer
		w.U8(1)
		w.Raw(b[:n])
		wantRefused(t, "P4.1: 2^32 bytes or more", &w, api.ErrEncLong)
	}
}
