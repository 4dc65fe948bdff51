package script

import (
	"glean/api"
	"glean/app"
	"glean/dec"
	"glean/genesis"
	"glean/query"
)

// begin makes an engine at a chain's beginning.
func begin(g api.Genesis) (*app.Engine, api.Errno) {
	s, e := genesis.Make(genesis.Encode(g))
	if e != api.OK {
		return nil, e
	}
	return app.New(s)
}

// play writes what comes of a block.
func (p *paper) play(engine *app.Engine, items [][]byte) {
	report, e := engine.Block(items)
	if e != api.OK {
		p.line(words{"refused"}.errno(e))
		return
	}
	p.report(report)
}

// report writes a block's report.
func (p *paper) report(r api.Report) {
	p.line(words{"block"}.numbers(r.Height))
	for _, g := range r.Gave {
		p.line(words{"gave"}.numbers(g.Val).dec(g.Q))
	}
	for _, reply := range r.Replies {
		p.line(replyOf(reply))
	}
	for _, m := range r.Matured {
		p.line(words{"due"}.numbers(m.Id, uint64(m.Kind)))
	}
	for _, id := range r.Went {
		p.line(words{"went"}.numbers(id))
	}
	for _, id := range r.Came {
		p.line(words{"came"}.numbers(id))
	}
}

// replyOf tells the words of what came of an item.
func replyOf(r api.Reply) words {
	if r.Err != api.OK {
		return words{"err"}.errno(r.Err)
	}
	w := words{"ok"}.numbers(r.N).dec(r.Shares)
	for _, x := range r.Paid {
		w = w.numbers(x.Val, x.Del, x.W).dec(x.Q)
	}
	return w
}

// totals writes what there is behind the last block.
func (p *paper) totals(engine *app.Engine) {
	all := query.New(engine.Store()).Totals()
	p.line(words{"coins"}.dec(dec.OfNat(all.Coins)))
	p.line(words{"pool"}.dec(all.Pool))
}
