// Package meter: requests at their rates, items spaced out: see DOC.md.
package meter

import (
	"sync"

	"meter/api"
	"meter/plan"
	"meter/queue"
	"meter/shard"
	"meter/wire"
)

// Meter lets requests through.
type Meter struct {
	// clock guards now. A request or an item holds it for reading until it is decided, so that shards work side by side but time stands still for each. Many commands at once hold it for writing.
	clock  sync.RWMutex
	now    uint64
	shards []*shard.Shard
	queue  *queue.Queue
}

// New makes a meter (P3).
func New(c api.Config) (*Meter, api.Errno) {
	p, e := plan.Of(c)
	if e != api.OK {
		return nil, e
	}
	m := &Meter{
		shards: make([]*shard.Shard, c.Shards),
		queue:  queue.New(c.Every, c.Delay, c.Queue),
	}
	for i := range m.shards {
		m.shards[i] = shard.New(p, c.Slots)
	}
	return m, api.OK
}

// Now tells the time (P4).
func (m *Meter) Now() uint64 {
	m.clock.RLock()
	defer m.clock.RUnlock()
	return m.now
}

// Advance lets time go on (P4).
func (m *Meter) Advance(n int) api.Errno {
	if n < 0 {
		return api.ErrArg
	}
	m.advance(uint64(n))
	return api.OK
}

// Allow asks whether a request is let through (P5).
func (m *Meter) Allow(k api.Key, cost int) (api.Reply, api.Errno) {
	if cost < 1 || cost > api.MaxCost {
		return api.Reply{}, api.ErrArg
	}
	m.clock.RLock()
	defer m.clock.RUnlock()
	return m.shards[m.shardOf(k.Tenant)].Allow(k, cost, m.now), api.OK
}

// Submit takes an item (P8).
func (m *Meter) Submit(tenant uint16, item uint32) (api.Status, uint64) {
	m.clock.RLock()
	defer m.clock.RUnlock()
	return m.queue.Submit(tenant, item, m.now)
}

// Poll tells items that are due (P9).
func (m *Meter) Poll(most int) []api.Item {
	m.clock.RLock()
	defer m.clock.RUnlock()
	return m.queue.Poll(most, m.now)
}

// Do does what a command says (P10).
func (m *Meter) Do(command string) string {
	c := wire.Read(command)
	if c.Kind == wire.Advance {
		return wire.Time(m.advance(c.Span))
	}
	m.clock.RLock()
	defer m.clock.RUnlock()
	return m.answer(c, m.now)
}

// Many does what several commands say (P12).
func (m *Meter) Many(commands []string) ([]string, api.Errno) {
	if len(commands) > api.MaxMany {
		return nil, api.ErrArg
	}
	if len(commands) == 0 {
		return nil, api.OK
	}
	// Held until all of them are done, so that nobody else's call comes in between.
	m.clock.Lock()
	defer m.clock.Unlock()
	steps := stepsFrom(m.now, commands)
	answers := m.doAll(steps)
	m.now = steps[len(steps)-1].now
	return answers, api.OK
}

// answer does a command, at the time that is given, and tells what it is answered by. Of an advance that time is the one behind it: whoever asks sets the clock.
func (m *Meter) answer(c wire.Command, now uint64) string {
	switch c.Kind {
	case wire.Allow:
		return wire.Reply(m.shards[m.shardOf(c.Key.Tenant)].Allow(c.Key, c.Cost, now))
	case wire.Submit:
		return wire.Due(m.queue.Submit(c.Tenant, c.Item, now))
	case wire.Poll:
		return wire.Items(m.queue.Poll(c.Most, now))
	case wire.Advance:
		return wire.Time(now)
	}
	return wire.Refused
}

// advance lets time go on by MaxTime at most, and tells the time behind it: nobody else's step comes in between.
func (m *Meter) advance(n uint64) uint64 {
	m.clock.Lock()
	defer m.clock.Unlock()
	m.now = later(m.now, n)
	return m.now
}

// shardOf tells which shard a tenant's keys are in (P6).
func (m *Meter) shardOf(tenant uint16) int {
	return int(tenant) % len(m.shards)
}

// later tells the time n nanoseconds on (P4). Both numbers are at most MaxTime, so the sum does not wrap.
func later(now, n uint64) uint64 {
	return min(now+n, api.MaxTime)
}
