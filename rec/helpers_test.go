package rec_test

import (
	"bytes"
	"encoding/binary"
	"math/big"
	"math/rand"
	"reflect"
	"slices"
	"testing"

	"glean/api"
	"glean/rec"
)

const top = ^uint64(0)

// most: how many bytes a Dec's Raw has at most.
const most = 255

// kind: a kind of records, with its calls.
type kind struct {
	name string
	of   reflect.Type
	put  func(record any) []byte
	read func(b []byte) (any, api.Errno)
}

// kindOf makes a kind of its pair of calls.
func kindOf[T any](name string, put func(T) []byte, read func([]byte) (T, api.Errno)) kind {
	return kind{
		name: name,
		of:   reflect.TypeFor[T](),
		put:  func(record any) []byte { return put(record.(T)) },
		read: func(b []byte) (any, api.Errno) {
			record, e := read(b)
			return record, e
		},
	}
}

// kinds tells all of them.
func kinds() []kind {
	return []kind{
		kindOf("Params", rec.PutParams, rec.Params),
		kindOf("Chain", rec.PutChain, rec.Chain),
		kindOf("Pool", rec.PutPool, rec.Pool),
		kindOf("Account", rec.PutAccount, rec.Account),
		kindOf("Val", rec.PutVal, rec.Val),
		kindOf("Delegation", rec.PutDelegation, rec.Delegation),
		kindOf("History", rec.PutHistory, rec.History),
		kindOf("Cut", rec.PutCut, rec.Cut),
		kindOf("Unbonding", rec.PutUnbonding, rec.Unbonding),
		kindOf("Move", rec.PutMove, rec.Move),
		kindOf("Number", rec.PutNumber, rec.Number),
	}
}

// zero tells the kind's record whose fields are all zero.
func (k kind) zero() any { return reflect.Zero(k.of).Interface() }

// drawn draws a record of the kind; some Decs aren't normal, and some are too long, if that is asked for.
func (k kind) drawn(r *rand.Rand, long bool) any {
	record := reflect.New(k.of).Elem()
	for _, at := range places(record) {
		switch x := at.Addr().Interface().(type) {
		case *uint64:
			*x = r.Uint64() >> r.Intn(65)
		case *bool:
			*x = r.Intn(2) == 0
		case *api.Dec:
			*x = drawnDec(r, long)
		}
	}
	return record.Interface()
}

// drawnDec draws a Dec, mostly of few bytes, with noughts behind its limbs at times.
func drawnDec(r *rand.Rand, long bool) api.Dec {
	n := r.Intn(most+1) >> r.Intn(9)
	if long && r.Intn(5) == 0 {
		n = most + 1 + r.Intn(80)
	}
	b := make([]byte, n)
	r.Read(b)
	if n > 0 {
		b[0] |= 1
	}
	return api.Dec{Raw: append(limbs(b), make(api.Nat, r.Intn(3))...)}
}

// places tells a record's fields, in the order in which package api names them; a Dec alone, or a number, is one field.
func places(record reflect.Value) []reflect.Value {
	if record.Kind() != reflect.Struct || record.Type() == reflect.TypeFor[api.Dec]() {
		return []reflect.Value{record}
	}
	var all []reflect.Value
	for i := range record.NumField() {
		all = append(all, record.Field(i))
	}
	return all
}

// fields tells what stands in a record's fields.
func fields(record any) []any {
	var all []any
	for _, at := range places(reflect.ValueOf(record)) {
		all = append(all, at.Interface())
	}
	return all
}

// limbs makes the normal Nat whose digits to the base 256 are b, by none of the project's calls.
func limbs(b []byte) api.Nat {
	x := new(big.Int).SetBytes(b)
	var n api.Nat
	for x.Sign() > 0 {
		n = append(n, new(big.Int).And(x, new(big.Int).SetUint64(top)).Uint64())
		x.Rsh(x, 64)
	}
	return n
}

// digits tells a Nat's digits to the base 256, by none of the project's calls.
func digits(n api.Nat) []byte {
	x := new(big.Int)
	for _, limb := range slices.Backward(n) {
		x.Lsh(x, 64)
		x.Or(x, new(big.Int).SetUint64(limb))
	}
	return x.Bytes()
}

// longDec makes the Dec whose Raw has so many bytes, each of them b.
func longDec(n int, b byte) api.Dec { return api.Dec{Raw: limbs(bytes.Repeat([]byte{b}, n))} }

// spelt tells a record's bytes as the chapter says them, by none of the project's calls.
func spelt(record any) []byte {
	b := []byte{}
	for _, field := range fields(record) {
		switch x := field.(type) {
		case uint64:
			b = binary.BigEndian.AppendUint64(b, x)
		case bool:
			b = append(b, map[bool]byte{true: 1}[x])
		case api.Dec:
			d := digits(x.Raw)
			if len(d) > most {
				d = nil
			}
			b = append(append(b, byte(len(d))), d...)
		}
	}
	return b
}

// meant tells the record whose bytes are b, and whether there is one, by none of the project's calls.
func (k kind) meant(b []byte) (any, bool) {
	record := reflect.New(k.of).Elem()
	for _, at := range places(record) {
		size := 8
		switch at.Addr().Interface().(type) {
		case *bool:
			size = 1
		case *api.Dec:
			if len(b) == 0 {
				return k.zero(), false
			}
			size, b = int(b[0]), b[1:]
		}
		if len(b) < size {
			return k.zero(), false
		}
		head := b[:size]
		b = b[size:]
		switch x := at.Addr().Interface().(type) {
		case *uint64:
			*x = binary.BigEndian.Uint64(head)
		case *bool:
			if head[0] > 1 {
				return k.zero(), false
			}
			*x = head[0] == 1
		case *api.Dec:
			if size > 0 && head[0] == 0 {
				return k.zero(), false
			}
			x.Raw = limbs(head)
		}
	}
	if len(b) > 0 {
		return k.zero(), false
	}
	return record.Interface(), true
}

// same tells whether two records have the same fields, Decs limb by limb.
func same(x, y any) bool {
	return slices.EqualFunc(fields(x), fields(y), func(f, g any) bool {
		d, ok := f.(api.Dec)
		if !ok {
			return f == g
		}
		return slices.Equal(d.Raw, g.(api.Dec).Raw)
	})
}

// wantPut fails unless the kind lays a record as the chapter says.
func wantPut(t *testing.T, k kind, record any) {
	t.Helper()
	if got, want := k.put(record), spelt(record); !bytes.Equal(got, want) {
		t.Fatalf("P8.1: Put%s(%v): % x, not % x", k.name, record, got, want)
	}
}

// wantRead fails unless the kind reads of bytes what the chapter says of them; it tells whether they are a record.
func wantRead(t *testing.T, k kind, b []byte) bool {
	t.Helper()
	want, ok := k.meant(b)
	got, e := k.read(b)
	if !same(got, want) || ok && e != api.OK || !ok && e != api.ErrRecForm {
		t.Fatalf("P8.2: %s(% x): %v, %v, not %v, %t", k.name, b, got, e, want, ok)
	}
	return ok
}

// roomy gives a list room behind its end, with something in it, as a caller's longer list has.
func roomy[T any](x T, l []T) []T {
	return append(slices.Clone(l), x, x, x, x)[:len(l)]
}

// spoil writes over a list, and over the room behind it.
func spoil[T any](l []T, x T) {
	l = l[:cap(l)]
	for i := range l {
		l[i] = x
	}
}
