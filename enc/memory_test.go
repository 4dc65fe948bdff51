package enc_test

import (
	"bytes"
	"math/rand"
	"slices"
	"sync"
	"testing"

	"glean/api"
	"glean/enc"
)

// spoil writes over a list, and over the room behind it.
func spoil[T any](l []T, x T) {
	l = l[:cap(l)]
	for i := range l {
		l[i] = x
	}
}

// roomy gives a list room behind its end, with something in it, as a caller's longer list has.
func roomy[T any](x T, l []T) []T {
	return append(slices.Clone(l), x, x, x)[:len(l)]
}

// P4.5: what a Writer is handed stays as it was, and may be changed behind the call.
func TestWhatAWriterIsHanded(t *testing.T) {
	for n := range 600 {
		raw := roomy(44, bytes.Repeat([]byte{3}, n))
		whole := roomy(44, append(longNat(min(n, 255), 5), 0))
		before, limbsBefore := slices.Clone(raw[:cap(raw)]), slices.Clone(whole[:cap(whole)])
		var w enc.Writer
		w.Raw(raw)
		w.Nat(whole)
		w.Dec(api.Dec{Raw: whole})
		if !bytes.Equal(raw[:cap(raw)], before) || !slices.Equal(whole[:cap(whole)], limbsBefore) {
			t.Fatalf("P4.5: what the Writer was handed was changed: %v, %v", raw[:cap(raw)], whole[:cap(whole)])
		}
		want, _ := w.Out()
		want = bytes.Clone(want)
		spoil(raw, 77)
		spoil(whole, 77)
		wantOut(t, "P4.5: changed behind the call", &w, want)
	}
}

// P4.5: what Out told is the caller's own.
func TestWhatAWriterHandsOut(t *testing.T) {
	var w enc.Writer
	var want []byte
	for i := range 700 {
		w.U8(uint8(i))
		want = append(want, uint8(i))
		first, _ := w.Out()
		second, _ := w.Out()
		kept := bytes.Clone(second)
		spoil(first, 77)
		if !bytes.Equal(second, kept) {
			t.Fatalf("P4.5: two answers of Out share memory")
		}
		spoil(second, 78)
		wantOut(t, "P4.5: answers were changed", &w, want)
	}
	early, _ := w.Out()
	w.U64(top)
	if !bytes.Equal(early, want) {
		t.Errorf("P4.5: an answer was changed by what was laid behind it")
	}
}

// P4.5: what a Reader was handed stays as it was, may be changed behind NewReader, and isn't reached by what is read.
func TestWhatAReaderIsHanded(t *testing.T) {
	given := roomy(44, []byte{0, 0, 0, 3, 1, 2, 3, 2, 1, 0, 1, 9, 0, 0, 0, 1, 8, 6})
	before := slices.Clone(given[:cap(given)])
	take := func(r *enc.Reader) ([]byte, api.Nat, api.Dec, []byte) { return r.Raw(3), r.Nat(), r.Dec(), r.Raw(1) }
	r := enc.NewReader(given)
	raw, whole, d, last := take(r)
	for _, l := range [][]byte{raw, last} {
		spoil(l, 77)
	}
	spoil(whole, 77)
	spoil(d.Raw, 77)
	if x := r.U8(); x != 6 || r.End() != api.OK {
		t.Errorf("P4.5: behind changed answers: %d, %v", x, r.Err())
	}
	if !bytes.Equal(given[:cap(given)], before) {
		t.Errorf("P4.5: what the Reader was handed was changed: % x", given[:cap(given)])
	}
	r = enc.NewReader(given)
	spoil(given, 77)
	raw, whole, d, last = take(r)
	if !bytes.Equal(raw, []byte{1, 2, 3}) || !slices.Equal(whole, api.Nat{256}) || !slices.Equal(d.Raw, api.Nat{9}) || !bytes.Equal(last, []byte{8}) {
		t.Errorf("P4.5: changed behind NewReader: %v, %v, %v, %v", raw, whole, d, last)
	}
	wantLeft(t, "P4.5: changed behind NewReader", r, 1, api.OK)
}

// branch: a Writer and what it is to hold.
type branch struct {
	w    enc.Writer
	want []byte
}

// P4.5: copies of a Writer go on by themselves, from whatever point on, and whichever is laid on first.
func TestCopiesOfWriters(t *testing.T) {
	r := rand.New(rand.NewSource(6))
	for range 60 {
		branches := make([]branch, 5)
		for range 200 {
			at := r.Intn(len(branches))
			if r.Intn(6) == 0 {
				from := &branches[r.Intn(len(branches))]
				branches[at] = branch{from.w, bytes.Clone(from.want)}
			}
			p := sample(r)
			p.lay(&branches[at].w)
			b, _ := p.spelt()
			branches[at].want = append(branches[at].want, b...)
		}
		for i := range branches {
			wantOut(t, "P4.5: a copy", &branches[i].w, branches[i].want)
		}
		failed := branches[0].w
		failed.Nat(longNat(256, 1))
		wantRefused(t, "P4.5: a copy with an error", &failed, api.ErrEncLong)
		wantOut(t, "P4.5: its error isn't the other one's", &branches[0].w, branches[0].want)
	}
}

// P4.5: copies of a Reader, and Readers of the same bytes, go on by themselves.
func TestCopiesOfReaders(t *testing.T) {
	b := []byte{1, 2, 3, 4, 5}
	r, other := enc.NewReader(b), enc.NewReader(b)
	r.U8()
	twin := *r
	if x, y := r.U32(), twin.U8(); x != 0x02030405 || y != 2 {
		t.Errorf("P4.5: %d, %d", x, y)
	}
	r.U8()
	wantLeft(t, "P4.5: the one", r, 0, api.ErrEncShort)
	wantLeft(t, "P4.5: its copy", &twin, 3, api.OK)
	wantLeft(t, "P4.5: another one", other, 5, api.OK)
}

// P4.5: what a Reader handed out isn't what its copy hands out.
func TestWhatCopiesOfReadersHandOut(t *testing.T) {
	r := enc.NewReader([]byte{0, 0, 0, 2, 5, 6, 2, 7, 8})
	twin := *r
	spoil(r.Raw(2), 77)
	spoil(r.Nat(), 77)
	if raw, n := twin.Raw(2), twin.Nat(); !bytes.Equal(raw, []byte{5, 6}) || !slices.Equal(n, api.Nat{0x0708}) {
		t.Errorf("P4.5: changed answers show in a copy's: %v, %v", raw, n)
	}
}

// P4.5: Writers and Readers that are asked at the same time answer as they do alone.
func TestAtTheSameTime(t *testing.T) {
	var begun enc.Writer
	begun.Raw(bytes.Repeat([]byte{7}, 300))
	var all sync.WaitGroup
	failed := make([]bool, 8)
	for i := range failed {
		own := begun
		all.Go(func() {
			for j := range 500 {
				own.U64(uint64(i * j))
			}
			b, _ := own.Out()
			r := enc.NewReader(b)
			r.Raw(300)
			for j := range 500 {
				failed[i] = failed[i] || r.U64() != uint64(i*j)
			}
			failed[i] = failed[i] || r.End() != api.OK
		})
	}
	all.Wait()
	if slices.Contains(failed, true) {
		t.Errorf("P4.5: what was laid wasn't read: %v", failed)
	}
}
