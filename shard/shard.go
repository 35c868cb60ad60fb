// Package shard: the keys of some of the tenants, behind a lock of their own.
package shard

import (
	"sync"

	"meter/api"
	"meter/place"
	"meter/plan"
)

// Shard keeps the marks of its keys. It is made by New.
type Shard struct {
	lock  sync.Mutex
	plan  *plan.Plan
	slots int
	marks map[place.Place]uint64
}

// New makes a shard that keeps slots keys at most.
func New(p *plan.Plan, slots int) *Shard {
	return &Shard{plan: p, slots: slots, marks: make(map[place.Place]uint64, slots)}
}

// Allow decides a request (P5, P6). The cost is 1 to api.MaxCost, and time does not go back from call to call.
func (s *Shard) Allow(k api.Key, cost int, now uint64) api.Reply {
	s.lock.Lock()
	defer s.lock.Unlock()
	s.forget(now)
	places := place.All(k)
	if !s.hasRoom(places) {
		return api.Reply{Status: api.Full}
	}
	next, reply := s.decide(places, cost, now)
	if reply.Status == api.Allowed {
		s.keep(places, next)
	}
	return reply
}

// forget drops the keys that are not awake: a mark that time has reached is as good as 0. Those that are left are the ones that count for the room.
func (s *Shard) forget(now uint64) {
	for p, mark := range s.marks {
		if mark <= now {
			delete(s.marks, p)
		}
	}
}

// hasRoom tells whether the places that are not kept yet fit beside those that are.
func (s *Shard) hasRoom(places [api.Levels]place.Place) bool {
	keys := len(s.marks)
	for _, p := range places {
		if _, found := s.marks[p]; !found {
			keys++
		}
	}
	return keys <= s.slots
}

// decide tells which marks the request would leave, and what becomes of it. A later level may still lengthen the wait that an earlier one asks for, so all of them are asked.
func (s *Shard) decide(places [api.Levels]place.Place, cost int, now uint64) ([api.Levels]uint64, api.Reply) {
	var next [api.Levels]uint64
	reply := api.Reply{Status: api.Allowed}
	for level, p := range places {
		mark, wait := s.plan.RateAt(p).Ask(s.marks[p], now, cost)
		next[level] = mark
		if wait == 0 {
			continue
		}
		if reply.Status == api.Allowed {
			reply.Status, reply.Level = api.Denied, level
		}
		reply.Retry = max(reply.Retry, wait)
	}
	return next, reply
}

// keep writes the marks down.
func (s *Shard) keep(places [api.Levels]place.Place, next [api.Levels]uint64) {
	for level, p := range places {
		s.marks[p] = next[level]
	}
}
