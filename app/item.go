package app

import (
	"glean/ante"
	"glean/api"
	"glean/kv"
	"glean/msg"
	"glean/slash"
)

// do does a raw item.
func do(s *kv.Store, item []byte) (api.Reply, api.Errno) {
	i, e := msg.Decode(item)
	if e != api.OK {
		return api.Reply{}, e
	}
	if i.Kind == api.ItemFault {
		return strike(s, i.Fault)
	}
	if e = ante.Admit(s, i.Tx); e != api.OK {
		return api.Reply{}, e
	}
	return task{s, i.Tx.Sender, i.Tx.Msg}.perform()
}

// strike does a fault.
func strike(s *kv.Store, f api.Fault) (api.Reply, api.Errno) {
	paid, n, e := slash.Fault(s, f.Kind, f.Val, f.Height)
	return api.Reply{N: n, Paid: paid}, e
}
