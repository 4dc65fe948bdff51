package msg

import "glean/api"

// The places of a use.
const (
	fieldA = iota
	fieldB
	fieldN
	known
)

// use: which of A, B, N a message's kind uses. Known tells that there is such a kind: otherwise one that uses nothing would look like none.
type use [known + 1]bool

// uses tells each kind's; the zero use is no kind's.
func uses() [api.MsgSpend + 1]use {
	return [...]use{
		api.MsgSend:       {fieldA: true, fieldN: true, known: true},
		api.MsgCreate:     {fieldA: true, fieldN: true, known: true},
		api.MsgDelegate:   {fieldA: true, fieldN: true, known: true},
		api.MsgUndelegate: {fieldA: true, fieldN: true, known: true},
		api.MsgRedelegate: {fieldA: true, fieldB: true, fieldN: true, known: true},
		api.MsgWithdraw:   {fieldA: true, known: true},
		api.MsgCommission: {known: true},
		api.MsgUnjail:     {known: true},
		api.MsgFund:       {fieldN: true, known: true},
		api.MsgSpend:      {fieldA: true, fieldN: true, known: true},
	}
}

// useOf tells a kind's use; the zero one, if there is no such kind.
func useOf(kind int) use {
	all := uses()
	if kind < 0 || kind >= len(all) {
		return use{}
	}
	return all[kind]
}

// both tells what two uses have in common.
func both(x, y use) use {
	var z use
	for at := range z {
		z[at] = x[at] && y[at]
	}
	return z
}

// isMsg tells whether a message is of a kind, and shows nothing that this kind doesn't use.
func isMsg(m api.Msg) bool {
	shown := use{fieldA: m.A != 0, fieldB: m.B != 0, fieldN: m.N != 0, known: true}
	return both(shown, useOf(m.Kind)) == shown
}
