package query

import "glean/api"

// isQuestion tells whether there is such a kind, and the question uses no number but those that its kind does.
func isQuestion(a api.Ask) bool {
	usesA, usesB, known := uses(a.Kind)
	return known && (usesA || a.A == 0) && (usesB || a.B == 0)
}

// uses tells whether a kind uses A, and B, and whether there is such a kind.
func uses(kind int) (a, b, known bool) {
	switch kind {
	case api.AskBonded, api.AskPool, api.AskChain:
		return false, false, true
	case api.AskAccount, api.AskVal, api.AskFrom, api.AskHolds, api.AskUnbonding, api.AskMove:
		return true, false, true
	case api.AskDelegation, api.AskClaim:
		return true, true, true
	}
	return false, false, false
}

// tell answers a question of one of the kinds, and tells whether that of which it asks is there.
func (v *View) tell(a api.Ask) (api.Answer, bool) {
	switch a.Kind {
	case api.AskAccount:
		return account(v.store, a.A), true
	case api.AskVal:
		return validator(v.store, a.A)
	case api.AskDelegation:
		return delegation(v.store, a.A, a.B)
	case api.AskClaim:
		return v.trial.claim(a.A, a.B)
	case api.AskBonded:
		return bonded(v.store), true
	case api.AskPool:
		return pool(v.store), true
	case api.AskFrom:
		return from(v.store, a.A), true
	case api.AskHolds:
		return holds(v.store, a.A), true
	case api.AskChain:
		return chain(v.store), true
	case api.AskUnbonding:
		return unbonding(v.store, a.A)
	case api.AskMove:
		return move(v.store, a.A)
	}
	return api.Answer{}, false
}
