package script_test

import (
	"bytes"
	"math/rand"
	"slices"
	"sync"
	"testing"

	"glean/api"
	"glean/script"
)

// roomy tells the same list with room behind it that holds other things.
func roomy[T any](list []T, other T) []T {
	full := append(slices.Clone(list), other, other, other)
	return full[:len(list)]
}

// spoil changes a list and the room behind it.
func spoil[T any](list []T, other T) {
	all := list[:cap(list)]
	for i := range all {
		all[i] = other
	}
}

// roomyScript tells the same script, with room behind each list.
func roomyScript(s api.Script) api.Script {
	s.Genesis.Accounts, s.Genesis.Vals = roomy(s.Genesis.Accounts, api.Purse{Id: 7}), roomy(s.Genesis.Vals, api.Founder{Op: 7})
	var blocks [][][]byte
	for _, items := range s.Blocks {
		var all [][]byte
		for _, b := range items {
			all = append(all, roomy(b, 0xA5))
		}
		blocks = append(blocks, roomy(all, []byte{1, 2, 3}))
	}
	s.Blocks = roomy(blocks, [][]byte{{4, 5}, nil})
	return s
}

// deep tells a copy of a script with all the room behind its lists.
func deep(s api.Script) api.Script {
	s.Genesis.Accounts = slices.Clone(s.Genesis.Accounts[:cap(s.Genesis.Accounts)])
	s.Genesis.Vals = slices.Clone(s.Genesis.Vals[:cap(s.Genesis.Vals)])
	var blocks [][][]byte
	for _, items := range s.Blocks[:cap(s.Blocks)] {
		var all [][]byte
		for _, b := range items[:cap(items)] {
			all = append(all, bytes.Clone(b[:cap(b)]))
		}
		blocks = append(blocks, all)
	}
	s.Blocks = blocks
	return s
}

// DOC.md, what holds everywhere, 3: Print and Play neither change nor keep what they are handed, the room behind it included, and read nothing of that room.
func TestWhatIsHanded(t *testing.T) {
	r := rand.New(rand.NewSource(2604))
	for range 200 {
		plain := parsed(t, drawnChain(r))
		s := roomyScript(plain)
		before := deep(s)
		text, want := script.Print(plain), played(t, plain)
		if got := script.Print(s); got != text {
			t.Fatalf("P26.2: %q, not %q", got, text)
		}
		if got, e := script.Play(s); e != api.OK || got != want {
			t.Fatalf("P26.3: %v, %q, not %q", e, got, want)
		}
		if !sameScript(deep(s), before) {
			t.Fatal("what was handed in has changed")
		}
	}
}

// DOC.md, what holds everywhere, 3: what Parse tells is new memory, no two lists of which share any.
func TestWhatIsTold(t *testing.T) {
	r := rand.New(rand.NewSource(2605))
	for range 200 {
		text := drawnChain(r)
		one, two, want := parsed(t, text), parsed(t, text), parsed(t, text)
		for i, items := range one.Blocks {
			for k, b := range items {
				spoil(b, 0xEE)
				one.Blocks[i][k] = want.Blocks[i][k]
				if !sameScript(one, want) {
					t.Fatalf("P26.1: item %d of block %d shares memory with others", k, i)
				}
			}
		}
		for i := range one.Blocks {
			spoil(one.Blocks[i], []byte{1})
			one.Blocks[i] = want.Blocks[i]
			if !sameScript(one, want) {
				t.Fatalf("P26.1: block %d shares memory with others", i)
			}
		}
		spoil(one.Blocks, nil)
		spoil(one.Genesis.Accounts, api.Purse{})
		spoil(one.Genesis.Vals, api.Founder{})
		wantParse(t, text, two)
	}
}

// DOC.md, what holds everywhere, 9: calls at the same time answer as they do alone; what one was asked doesn't show in another one's answer.
func TestAtTheSameTime(t *testing.T) {
	var all sync.WaitGroup
	shared := parsed(t, drawnChain(rand.New(rand.NewSource(1))))
	text, want := script.Print(shared), played(t, shared)
	for k := range 8 {
		all.Go(func() {
			r := rand.New(rand.NewSource(int64(2610 + k)))
			for range 30 {
				_, err := script.Parse(drawnChain(r)[r.Intn(99):])
				got, e := script.Play(shared)
				again, none := script.Parse(text)
				if e != api.OK || got != want || script.Print(shared) != text || none != nil || !sameScript(again, shared) {
					t.Errorf("beside others: %v, %v, %q", e, err, got)
					return
				}
			}
		})
	}
	all.Wait()
}
