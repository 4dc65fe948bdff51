package script

import (
	"glean/api"
	"glean/msg"
)

// genesis writes a beginning.
func (p *paper) genesis(g api.Genesis) {
	p.line(words{"params"}.places(paramsOf(&g.Params)))
	for _, a := range g.Accounts {
		p.line(words{"account"}.numbers(a.Id, a.Coins))
	}
	for _, v := range g.Vals {
		p.line(words{"validator"}.numbers(v.Op, v.Rate, v.Tokens))
	}
}

// block writes a block's items.
func (p *paper) block(items [][]byte) {
	p.line(words{"block"})
	for _, b := range items {
		p.line(itemOf(b))
	}
}

// itemOf tells an item's words.
func itemOf(b []byte) words {
	i, _ := msg.Decode(b) // what is no item has no kind either
	switch i.Kind {
	case api.ItemTx:
		return txOf(i.Tx)
	case api.ItemFault:
		return words{"fault", faultWord(i.Fault.Kind)}.numbers(i.Fault.Val, i.Fault.Height)
	}
	return words{"raw", hexOf(b)}
}

// txOf tells a transaction's words.
func txOf(t api.Tx) words {
	w := words{"tx"}.numbers(t.Sender, t.Seq, t.Fee)
	return append(w, messages[t.Msg.Kind]).places(usedOf(&t.Msg))
}
