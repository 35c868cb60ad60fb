// Package queue: items that wait until they are due, spaced out for each tenant.
package queue

import (
	"slices"
	"sync"

	"meter/api"
	"meter/turn"
)

// Queue keeps the items that wait, and the tenants' turns. It is made by New.
type Queue struct {
	lock         sync.Mutex
	every, delay uint64
	room         int
	turns        *turn.List
	waiting      []api.Item // in the order in which they are told
}

// New makes a queue with room for so many items. Those of a tenant are at least every nanoseconds apart, and none waits for more than delay nanoseconds until it is due.
func New(every, delay, room int) *Queue {
	return &Queue{every: uint64(every), delay: uint64(delay), room: room, turns: turn.New()}
}

// Submit takes an item, or tells why not (P8). Time does not go back from call to call.
func (q *Queue) Submit(tenant uint16, item uint32, now uint64) (api.Status, uint64) {
	q.lock.Lock()
	defer q.lock.Unlock()
	q.turns.Forget(now)
	due := max(q.turns.Of(tenant), now)
	if due-now > q.delay {
		return api.TooLate, 0
	}
	if len(q.waiting) >= q.room {
		return api.Queued, 0
	}
	q.add(api.Item{Tenant: tenant, Item: item, Due: due})
	// The due time is at most MaxTime + MaxSpan here, and MaxTime + 2 * MaxSpan is just what a uint64 holds.
	q.turns.Set(tenant, due+q.every)
	return api.Accepted, due
}

// Poll takes out the items that are due, the first most ones of them (P9).
func (q *Queue) Poll(most int, now uint64) []api.Item {
	q.lock.Lock()
	defer q.lock.Unlock()
	count := 0
	for count < most && count < len(q.waiting) && q.waiting[count].Due <= now {
		count++
	}
	if count == 0 {
		return nil
	}
	// Those that go on waiting move up in the queue's own memory, so the answer may not lie there.
	told := make([]api.Item, count)
	copy(told, q.waiting)
	q.waiting = slices.Delete(q.waiting, 0, count)
	return told
}

// add lines an item up behind those that are due no later than it: they were submitted ahead of it.
func (q *Queue) add(x api.Item) {
	place := len(q.waiting)
	for place > 0 && q.waiting[place-1].Due > x.Due {
		place--
	}
	q.waiting = slices.Insert(q.waiting, place, x)
}
