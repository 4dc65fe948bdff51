package ledger

import (
	"glean/api"
	"glean/rat"
)

// Stake tells one.
func (l *Ledger) Stake(val, del uint64) api.Rat {
	s := l.stakes[pair{val, del}]
	if s == nil {
		return rat.Sum()
	}
	return rat.Sum(s.worth)
}

// Owed tells what is owed to it.
func (l *Ledger) Owed(val, del uint64) api.Rat {
	s := l.stakes[pair{val, del}]
	if s == nil {
		return rat.Sum()
	}
	return rat.Sum(s.owed)
}

// Stakes tells all of a validator's together.
func (l *Ledger) Stakes(val uint64) api.Rat {
	return l.sum(val, func(s *stake) api.Rat { return s.worth })
}

// Owes tells what is owed to all of them.
func (l *Ledger) Owes(val uint64) api.Rat {
	return l.sum(val, func(s *stake) api.Rat { return s.owed })
}

// sum adds up one thing of a validator's stakes; sums are exact, so that no order of the stakes is to be seen in them.
func (l *Ledger) sum(val uint64, of func(*stake) api.Rat) api.Rat {
	var parts []api.Rat
	l.all(val, func(s *stake) { parts = append(parts, of(s)) })
	return rat.Sum(parts...)
}
