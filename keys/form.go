package keys

import "glean/api"

// number: how many bytes a number of a key has.
const number = 8

// form: how a kind's keys look: how many bytes they have, and their marks, one ahead of A and one behind it (0: none stands there).
type form struct {
	size  int
	marks [2]byte
}

// forms tells the form of each kind; the zero form is no kind's, so that it stands for there being none.
func forms() [api.KeyCount + 1]form {
	const (
		alone     = 1
		one       = 1 + number
		oneMarked = 2 + number
		two       = 1 + 2*number
		twoMarked = 2 + 2*number
	)
	return [...]form{
		api.KeyParams:     {alone, [2]byte{'p'}},
		api.KeyChain:      {alone, [2]byte{'c'}},
		api.KeyPool:       {alone, [2]byte{'m'}},
		api.KeyAccount:    {one, [2]byte{'a'}},
		api.KeyVal:        {oneMarked, [2]byte{'v', '0'}},
		api.KeyDelegation: {twoMarked, [2]byte{'v', 'd'}},
		api.KeyHistory:    {twoMarked, [2]byte{'v', 'h'}},
		api.KeyCut:        {twoMarked, [2]byte{'v', 's'}},
		api.KeyTomb:       {one, [2]byte{'t'}},
		api.KeyPower:      {two, [2]byte{'i'}},
		api.KeyBonded:     {one, [2]byte{'b'}},
		api.KeyUnbonding:  {one, [2]byte{'u'}},
		api.KeyMove:       {one, [2]byte{'r'}},
		api.KeyDue:        {two, [2]byte{'q'}},
		api.KeySource:     {two, [2]byte{'e'}},
		api.KeyHolds:      {two, [2]byte{'n'}},
		api.KeyCount:      {two, [2]byte{'k'}},
	}
}

// formOf tells a kind's form; the zero one, if there is no such kind.
func formOf(kind int) form {
	all := forms()
	if kind < 0 || kind >= len(all) {
		return form{}
	}
	return all[kind]
}

// formIn tells the form that bytes have, be it a kind's or not. Numbers having 8 bytes, the size tells whether a second mark stands behind A; elsewhere that byte is B's.
func formIn(b []byte) form {
	f := form{size: len(b)}
	if len(b) > 0 {
		f.marks[0] = b[0]
	}
	if len(b) > 1+number && len(b)%number == 2 {
		f.marks[1] = b[1+number]
	}
	return f
}

// kindOf tells the kind that has a form; 0, if none has it.
func kindOf(f form) int {
	for kind, of := range forms() {
		if of == f {
			return kind
		}
	}
	return 0
}

// usesA tells whether keys of that form have an A.
func (f form) usesA() bool { return f.size > number }

// usesB tells whether they have a B.
func (f form) usesB() bool { return f.size > 2*number }

// begin tells all that keys of that form and A have ahead of B.
func (f form) begin(a uint64) []byte {
	b := append(make([]byte, 0, f.size), f.marks[0])
	if f.usesA() {
		b = appendNumber(b, a)
	}
	if f.marks[1] != 0 {
		b = append(b, f.marks[1])
	}
	return b
}

// appendNumber lays a number, the highest byte first, so that bytes stand in the order of numbers.
func appendNumber(b []byte, n uint64) []byte {
	for i := range number {
		b = append(b, byte(n>>(8*(number-1-i))))
	}
	return b
}

// numberAt tells the number that bytes begin with.
func numberAt(b []byte) uint64 {
	var n uint64
	for _, digit := range b[:number] {
		n = n<<8 | uint64(digit)
	}
	return n
}
