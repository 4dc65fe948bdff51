package rec_test

import (
	"bytes"
	"math/rand"
	"reflect"
	"testing"

	"glean/api"
)

// laid tells the record that a record's bytes stand for: Decs are normal, and 0 if they are too long.
func (k kind) laid(record any) any {
	copied := reflect.New(k.of).Elem()
	copied.Set(reflect.ValueOf(record))
	for _, at := range places(copied) {
		x, ok := at.Addr().Interface().(*api.Dec)
		if !ok {
			continue
		}
		d := digits(x.Raw)
		if len(d) > most {
			d = nil
		}
		x.Raw = limbs(d)
	}
	return copied.Interface()
}

// P8.3: a record comes back as it was laid.
func TestThereAndBack(t *testing.T) {
	r := rand.New(rand.NewSource(86))
	for _, k := range kinds() {
		for i := range 3000 {
			record := k.drawn(r, i%2 == 0)
			got, e := k.read(k.put(record))
			if want := k.laid(record); e != api.OK || !same(got, want) {
				t.Fatalf("P8.3: %s(Put%s(%v)): %v, %v", k.name, k.name, want, got, e)
			}
		}
	}
}

// P8.3: bytes that are read are laid again as they were.
func TestBackAndThere(t *testing.T) {
	r := rand.New(rand.NewSource(87))
	for _, k := range kinds() {
		taken := 0
		for range 5000 {
			b := k.put(k.drawn(r, false))
			b[r.Intn(len(b))] = byte(r.Intn(256))
			record, e := k.read(b)
			if e != api.OK {
				continue
			}
			taken++
			if got := k.put(record); !bytes.Equal(got, b) {
				t.Fatalf("P8.3: %s: % x was read, % x laid again", k.name, b, got)
			}
		}
		if taken == 0 {
			t.Errorf("P8.3: %s: nothing was read", k.name)
		}
	}
}

// other draws another record that differs in some of the fields, or in none.
func (k kind) other(r *rand.Rand, record any) any {
	near := reflect.New(k.of).Elem()
	near.Set(reflect.ValueOf(record))
	far := fields(k.drawn(r, false))
	for i, at := range places(near) {
		if r.Intn(6) == 0 {
			at.Set(reflect.ValueOf(far[i]))
		}
	}
	return near.Interface()
}

// P8.3: unlike records of one kind are unlike bytes, and like ones the same.
func TestUnlikeRecords(t *testing.T) {
	r := rand.New(rand.NewSource(88))
	for _, k := range kinds() {
		for range 3000 {
			x := k.drawn(r, false)
			y := k.other(r, x)
			if same(k.laid(x), k.laid(y)) != bytes.Equal(k.put(x), k.put(y)) {
				t.Fatalf("P8.3: %s: %v and %v: % x and % x", k.name, x, y, k.put(x), k.put(y))
			}
		}
	}
}
