package rec_test

import (
	"bytes"
	"math/rand"
	"reflect"
	"slices"
	"sync"
	"testing"

	"glean/api"
)

// decs tells the Raws of a record.
func decs(record any) []api.Nat {
	var all []api.Nat
	for _, field := range fields(record) {
		if d, ok := field.(api.Dec); ok {
			all = append(all, d.Raw)
		}
	}
	return all
}

// withRoom gives each Dec of a record room behind it that isn't empty.
func (k kind) withRoom(record any) any {
	copied := reflect.New(k.of).Elem()
	copied.Set(reflect.ValueOf(record))
	for _, at := range places(copied) {
		if x, ok := at.Addr().Interface().(*api.Dec); ok {
			x.Raw = roomy(77, x.Raw)
		}
	}
	return copied.Interface()
}

// P8.1: what a Put is handed stays as it was, the room behind it too, and may be changed behind the call.
func TestWhatAPutIsHanded(t *testing.T) {
	r := rand.New(rand.NewSource(89))
	for _, k := range kinds() {
		for range 200 {
			record := k.withRoom(k.drawn(r, true))
			var before []api.Nat
			for _, n := range decs(record) {
				before = append(before, slices.Clone(n[:cap(n)]))
			}
			b := k.put(record)
			told := bytes.Clone(b)
			for i, n := range decs(record) {
				if !slices.Equal(n[:cap(n)], before[i]) {
					t.Fatalf("P8.1: Put%s changed what it was handed: %v", k.name, n[:cap(n)])
				}
				spoil(n, 78)
			}
			if !bytes.Equal(b, told) {
				t.Fatalf("P8.1: Put%s's answer follows what was handed in", k.name)
			}
		}
	}
}

// P8.2: what a reader is handed stays as it was, the room behind it too, and may be changed behind the call.
func TestWhatAReaderIsHanded(t *testing.T) {
	r := rand.New(rand.NewSource(90))
	for _, k := range kinds() {
		for i := range 200 {
			b := k.put(k.drawn(r, false))
			b = roomy(0xA5, b[:len(b)-i%2])
			before := bytes.Clone(b[:cap(b)])
			want, ok := k.meant(b)
			got, e := k.read(b)
			if !bytes.Equal(b[:cap(b)], before) {
				t.Fatalf("P8.2: %s changed what it was handed: % x", k.name, b[:cap(b)])
			}
			spoil(b, 0xA6)
			if (e == api.OK) != ok || !same(got, want) {
				t.Fatalf("P8.2: %s's answer follows what was handed in: %v, not %v", k.name, got, want)
			}
		}
	}
}

// P8.1: what a Put answers is new memory, the room behind it too.
func TestWhatAPutAnswers(t *testing.T) {
	r := rand.New(rand.NewSource(91))
	for _, k := range kinds() {
		record := k.drawn(r, true)
		first, second := k.put(record), k.put(record)
		want := bytes.Clone(second)
		spoil(first, 0xA5)
		if !bytes.Equal(second, want) || !bytes.Equal(k.put(record), want) {
			t.Errorf("P8.1: two answers of Put%s share memory", k.name)
		}
	}
}

// P8.2: what a reader answers is new memory: no two Decs of one answer, or of two, share any, nor the room behind them.
func TestWhatAReaderAnswers(t *testing.T) {
	r := rand.New(rand.NewSource(92))
	for _, k := range kinds() {
		for range 50 {
			b := k.put(k.drawn(r, false))
			want, _ := k.meant(b)
			first, _ := k.read(b)
			second, _ := k.read(b)
			for i, n := range decs(first) {
				spoil(n, 77)
				for j, other := range decs(first)[i+1:] {
					if !slices.Equal(other, decs(want)[i+1+j]) {
						t.Fatalf("P8.2: two Decs of an answer of %s share memory", k.name)
					}
				}
				long := append(n, 79)
				spoil(long, 80)
			}
			third, _ := k.read(b)
			if !same(second, want) || !same(third, want) {
				t.Fatalf("P8.2: two answers of %s share memory", k.name)
			}
		}
	}
}

// P8.3: calls at the same time answer as they do alone.
func TestAtTheSameTime(t *testing.T) {
	var all sync.WaitGroup
	failed := make([]bool, 8)
	for i := range failed {
		all.Go(func() {
			r := rand.New(rand.NewSource(int64(i)))
			for range 100 {
				for _, k := range kinds() {
					record := k.drawn(r, true)
					b := k.put(record)
					got, e := k.read(b)
					failed[i] = failed[i] || e != api.OK || !same(got, k.laid(record)) || !bytes.Equal(b, spelt(record))
				}
			}
		})
	}
	all.Wait()
	if slices.Contains(failed, true) {
		t.Errorf("P8.3: what was laid wasn't read: %v", failed)
	}
}
