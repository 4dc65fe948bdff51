package script

import (
	"glean/api"
	"glean/msg"
)

// list: the words of a line that are still to be read; the first error stays, so that it needs to be asked once, at the end.
type list struct {
	words []string
	err   error
}

// take reads the next word as what a function makes of it.
func take[T any](l *list, read func(word string) (T, error)) (got T) {
	switch {
	case l.err != nil:
	case len(l.words) == 0:
		l.err = api.ErrScriptWord
	default:
		got, l.err = read(l.words[0])
		l.words = l.words[1:]
	}
	return got
}

// end tells the first error; also if words are left.
func (l *list) end() error {
	if l.err == nil && len(l.words) > 0 {
		l.err = api.ErrScriptWord
	}
	return l.err
}

func (l *list) number() uint64 { return take(l, number) }

// numbers reads a number into each of some places.
func (l *list) numbers(places []*uint64) {
	for _, p := range places {
		*p = l.number()
	}
}

// tx reads the bytes of a transaction.
func (l *list) tx() []byte {
	t := api.Tx{Sender: l.number(), Seq: l.number(), Fee: l.number()}
	t.Msg.Kind = take(l, messageKind)
	l.numbers(usedOf(&t.Msg))
	return bytesOf(api.Item{Kind: api.ItemTx, Tx: t})
}

// fault reads the bytes of a fault.
func (l *list) fault() []byte {
	f := api.Fault{Kind: take(l, faultKind), Val: l.number(), Height: l.number()}
	return bytesOf(api.Item{Kind: api.ItemFault, Fault: f})
}

// bytesOf tells an item's bytes; there are none only of a line that isn't right.
func bytesOf(i api.Item) []byte {
	b, _ := msg.Encode(i)
	return b
}

// paramsOf tells where the params lie, in the order of their words.
func paramsOf(p *api.Params) []*uint64 {
	return []*uint64{&p.Max, &p.Unbond, &p.Entries, &p.Tax, &p.Double, &p.Down, &p.Jail, &p.Age, &p.Fee, &p.Keeper}
}

// usedOf tells where the numbers lie that a message's kind uses, in the order of their words.
func usedOf(m *api.Msg) []*uint64 {
	a, b, n := msg.Uses(m.Kind)
	var used []*uint64
	for i, uses := range [...]bool{a, b, n} {
		if uses {
			used = append(used, [...]*uint64{&m.A, &m.B, &m.N}[i])
		}
	}
	return used
}
