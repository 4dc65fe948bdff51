package ante

import (
	"glean/api"
	"glean/bank"
	"glean/kv"
	"glean/stake"
)

// offer: a transaction, and what of the store it is held against; that is read once, however much is asked.
type offer struct {
	tx    api.Tx
	least uint64      // the fee that the params ask for
	purse api.Account // the sender's
}

// offered tells a transaction's offer.
func offered(s *kv.Store, t api.Tx) offer {
	return offer{t, stake.Params(s).Fee, bank.Get(s, t.Sender)}
}

// asked tells all that is asked of an offer, in the order in which its errors come.
func asked() []func(offer) api.Errno {
	return []func(offer) api.Errno{byUser, feeEnough, feeCovered, inTurn}
}

// refusal tells the first error that applies to an offer.
func refusal(o offer) api.Errno {
	all := asked()
	for i := range len(all) {
		if e := all[i](o); e != api.OK {
			return e
		}
	}
	return api.OK
}

func byUser(o offer) api.Errno {
	if o.tx.Sender < api.FirstUser {
		return api.ErrAnteWho
	}
	return api.OK
}

func feeEnough(o offer) api.Errno {
	if o.tx.Fee < o.least {
		return api.ErrAnteFee
	}
	return api.OK
}

func feeCovered(o offer) api.Errno {
	if o.purse.Coins < o.tx.Fee {
		return api.ErrAntePay
	}
	return api.OK
}

func inTurn(o offer) api.Errno {
	if o.tx.Seq != o.purse.Seq {
		return api.ErrAnteSeq
	}
	return api.OK
}
