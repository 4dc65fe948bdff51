package msg

import (
	"glean/api"
	"glean/enc"
)

// The first byte of an item.
const (
	txMark    = 0x54
	faultMark = 0x46
)

// maxFault: the greatest kind of a fault that fits its byte; whether there is such a fault isn't asked here.
const maxFault = 255

// fields: A, B, N of a message, at their places in a use.
type fields [fieldN + 1]uint64

// isItem tells whether bytes stand for an item.
func isItem(i api.Item) bool {
	switch i.Kind {
	case api.ItemTx:
		return i.Fault == api.Fault{} && isMsg(i.Tx.Msg)
	case api.ItemFault:
		return i.Tx == api.Tx{} && i.Fault.Kind >= 0 && i.Fault.Kind <= maxFault
	}
	return false
}

// putTx lays a transaction whose message is one.
func putTx(w *enc.Writer, t api.Tx) {
	w.U8(txMark)
	w.U64(t.Sender)
	w.U64(t.Seq)
	w.U64(t.Fee)
	putMsg(w, t.Msg)
}

// putMsg lays a message's kind, and what it uses.
func putMsg(w *enc.Writer, m api.Msg) {
	w.U8(uint8(m.Kind))
	use := useOf(m.Kind)
	for at, x := range (fields{m.A, m.B, m.N}) {
		if use[at] {
			w.U64(x)
		}
	}
}

// putFault lays a fault whose kind fits.
func putFault(w *enc.Writer, f api.Fault) {
	w.U8(faultMark)
	w.U8(uint8(f.Kind))
	w.U64(f.Val)
	w.U64(f.Height)
}

// readItem reads what an item's first byte tells; what is missing counts as 0, so that the caller asks the Reader, and isItem, whether it is one.
func readItem(r *enc.Reader) api.Item {
	switch r.U8() {
	case txMark:
		return api.Item{Kind: api.ItemTx, Tx: readTx(r)}
	case faultMark:
		return api.Item{Kind: api.ItemFault, Fault: readFault(r)}
	}
	return api.Item{}
}

// readTx reads a transaction behind its first byte.
func readTx(r *enc.Reader) api.Tx {
	t := api.Tx{Sender: r.U64()}
	t.Seq = r.U64()
	t.Fee = r.U64()
	t.Msg = readMsg(r)
	return t
}

// readMsg reads a kind, and the fields that it uses: none, if there is no such kind.
func readMsg(r *enc.Reader) api.Msg {
	kind := int(r.U8())
	use := useOf(kind)
	var x fields
	for at := range x {
		if use[at] {
			x[at] = r.U64()
		}
	}
	return api.Msg{Kind: kind, A: x[fieldA], B: x[fieldB], N: x[fieldN]}
}

// readFault reads a fault behind its first byte.
func readFault(r *enc.Reader) api.Fault {
	f := api.Fault{Kind: int(r.U8())}
	f.Val = r.U64()
	f.Height = r.U64()
	return f
}
