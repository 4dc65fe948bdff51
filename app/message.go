package app

import (
	"slices"

	"glean/api"
	"glean/bank"
	"glean/dist"
	"glean/kv"
	"glean/slash"
	"glean/stake"
)

// task: a message that an admitted sender wants done.
type task struct {
	store  *kv.Store
	sender uint64
	msg    api.Msg
}

// deed: what is done of a kind of messages.
type deed struct{ do func() (api.Reply, api.Errno) }

// deeds tells what is done, by the message's kind.
func (t task) deeds() [api.MsgSpend + 1]deed {
	return [...]deed{
		api.MsgSend:       {t.send},
		api.MsgCreate:     {t.create},
		api.MsgDelegate:   {t.delegate},
		api.MsgUndelegate: {t.undelegate},
		api.MsgRedelegate: {t.redelegate},
		api.MsgWithdraw:   {t.withdraw},
		api.MsgCommission: {t.commission},
		api.MsgUnjail:     {t.unjail},
		api.MsgFund:       {t.fund},
		api.MsgSpend:      {t.spend},
	}
}

// perform does the message in a journal of its own, so that one that is refused leaves nothing but what it cost.
func (t task) perform() (reply api.Reply, e api.Errno) {
	t.store.Begin()
	defer func() {
		if e != api.OK {
			t.store.Rollback()
			return
		}
		t.store.Commit()
	}()
	return t.deeds()[t.msg.Kind].do()
}

func (t task) send() (api.Reply, api.Errno) {
	if t.msg.A < api.FirstUser {
		return api.Reply{}, api.ErrAppTo
	}
	return api.Reply{}, bank.Move(t.store, t.sender, t.msg.A, t.msg.N)
}

func (t task) create() (api.Reply, api.Errno) {
	shares, e := stake.Create(t.store, t.sender, t.msg.A, t.msg.N)
	paid := api.Paid{Val: t.sender, Del: t.sender, Left: again(shares), Shares: again(shares), Tokens: t.msg.N}
	return api.Reply{Shares: shares, Paid: []api.Paid{paid}}, e
}

// again tells the same in memory of its own.
func again(d api.Dec) api.Dec { return api.Dec{Raw: slices.Clone(d.Raw)} }

func (t task) delegate() (api.Reply, api.Errno) {
	shares, paid, e := stake.Delegate(t.store, t.msg.A, t.sender, t.msg.N)
	return api.Reply{Shares: shares, Paid: []api.Paid{paid}}, e
}

func (t task) undelegate() (api.Reply, api.Errno) {
	n, paid, e := stake.Undelegate(t.store, t.msg.A, t.sender, t.msg.N)
	return api.Reply{N: n, Paid: []api.Paid{paid}}, e
}

func (t task) redelegate() (api.Reply, api.Errno) {
	n, both, e := stake.Redelegate(t.store, t.msg.A, t.msg.B, t.sender, t.msg.N)
	return api.Reply{N: n, Paid: both}, e
}

func (t task) withdraw() (api.Reply, api.Errno) {
	paid, e := dist.Withdraw(t.store, t.msg.A, t.sender)
	return api.Reply{Paid: []api.Paid{paid}}, e
}

func (t task) commission() (api.Reply, api.Errno) {
	n, e := dist.Commission(t.store, t.sender)
	return api.Reply{N: n}, e
}

func (t task) unjail() (api.Reply, api.Errno) {
	return api.Reply{}, slash.Unjail(t.store, t.sender)
}

func (t task) fund() (api.Reply, api.Errno) {
	return api.Reply{}, dist.Fund(t.store, t.sender, t.msg.N)
}

func (t task) spend() (api.Reply, api.Errno) {
	switch {
	case t.sender != stake.Params(t.store).Keeper:
		return api.Reply{}, api.ErrAppKeeper
	case t.msg.A < api.FirstUser:
		return api.Reply{}, api.ErrAppTo
	}
	return api.Reply{}, dist.Spend(t.store, t.msg.A, t.msg.N)
}
