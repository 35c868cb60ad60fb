// Package turn: from when on each tenant may come again.
package turn

import "slices"

// List keeps the turns of tenants. It is made by New.
type List struct {
	at    map[uint16]uint64
	order []entry // from the earliest to the latest, so that forgetting does not go through all of them
}

// entry is a turn that was given. It is out of date, if its tenant got a later one.
type entry struct {
	tenant uint16
	at     uint64
}

// New makes a list without turns.
func New() *List {
	return &List{at: map[uint16]uint64{}}
}

// Of tells a tenant's turn: 0, if none is kept.
func (l *List) Of(tenant uint16) uint64 {
	return l.at[tenant]
}

// Set gives a tenant its turn, which is later than the one it had.
func (l *List) Set(tenant uint16, at uint64) {
	l.at[tenant] = at
	place := len(l.order)
	for place > 0 && l.order[place-1].at > at {
		place--
	}
	l.order = slices.Insert(l.order, place, entry{tenant: tenant, at: at})
}

// Forget drops the turns that time has reached: they are as good as 0.
func (l *List) Forget(now uint64) {
	reached := 0
	for reached < len(l.order) && l.order[reached].at <= now {
		l.drop(l.order[reached])
		reached++
	}
	l.order = l.order[reached:]
}

// drop takes a tenant's turn away, unless the tenant has got a later one.
func (l *List) drop(e entry) {
	if l.at[e.tenant] == e.at {
		delete(l.at, e.tenant)
	}
}
