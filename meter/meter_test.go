package meter_test

import (
	"slices"
	"sync"
	"testing"

	"meter/api"
	"meter/meter"
)

// small is the config of the document's examples.
func small() api.Config {
	return api.Config{
		Quotas: [api.Levels]api.Quota{{Count: 2, Period: 10, Burst: 10}, {Count: 1, Period: 5, Burst: 5}, {Count: 3, Period: 10, Burst: 20}},
		Shards: 1, Slots: 6, Every: 3, Delay: 5, Queue: 2,
	}
}

// wide is a config in which only the given quota's level ever denies.
func wide(level int, q api.Quota) api.Config {
	c := small()
	c.Slots = api.MaxSlots
	for i := range c.Quotas {
		c.Quotas[i] = api.Quota{Count: 1, Period: 1, Burst: api.MaxSpan - 1}
	}
	c.Quotas[level] = q
	return c
}

func fresh(t *testing.T, c api.Config) *meter.Meter {
	t.Helper()
	m, e := meter.New(c)
	if m == nil || e != api.OK {
		t.Fatalf("P3: New(%+v) = %v, %d", c, m, e)
	}
	return m
}

func ask(t *testing.T, m *meter.Meter, k api.Key, cost int, want api.Reply) {
	t.Helper()
	if got, e := m.Allow(k, cost); got != want || e != api.OK {
		t.Errorf("P5: Allow(%v, %d) = %+v, %d, want %+v", k, cost, got, e, want)
	}
}

func advance(t *testing.T, m *meter.Meter, n int, now uint64) {
	t.Helper()
	if e := m.Advance(n); e != api.OK || m.Now() != now {
		t.Errorf("P4: Advance(%d) = %d, then Now = %d, want %d", n, e, m.Now(), now)
	}
}

var (
	allowed = api.Reply{Status: api.Allowed}
	full    = api.Reply{Status: api.Full}
)

func denied(level int, retry uint64) api.Reply {
	return api.Reply{Status: api.Denied, Level: level, Retry: retry}
}

func TestExamples(t *testing.T) {
	m := fresh(t, small())
	one := api.Key{Tenant: 1, User: 1, Route: 1}
	ask(t, m, one, 1, allowed)
	ask(t, m, one, 1, allowed)
	ask(t, m, one, 1, denied(1, 5))
	ask(t, m, api.Key{Tenant: 1, User: 2, Route: 1}, 1, allowed)
	ask(t, m, api.Key{Tenant: 1, User: 3, Route: 1}, 1, full)
	ask(t, m, api.Key{Tenant: 2, User: 1, Route: 1}, 1, full)
	advance(t, m, 4, 4)
	ask(t, m, api.Key{Tenant: 2, User: 1, Route: 1}, 1, full)
	advance(t, m, 1, 5)
	ask(t, m, api.Key{Tenant: 2, User: 1, Route: 1}, 1, allowed)
}

func TestExamplesWithSevenSlots(t *testing.T) {
	c := small()
	c.Slots = 7
	m := fresh(t, c)
	one, three := api.Key{Tenant: 1, User: 1, Route: 1}, api.Key{Tenant: 1, User: 3, Route: 1}
	ask(t, m, one, 1, allowed)
	ask(t, m, one, 1, allowed)
	ask(t, m, api.Key{Tenant: 1, User: 2, Route: 1}, 1, allowed)
	ask(t, m, three, 1, denied(0, 5))
	ask(t, m, three, 2, denied(0, 10))
	ask(t, m, three, 4, denied(0, api.Never))
}

func TestNewRefuses(t *testing.T) {
	q := api.Quota{Count: 1, Period: 1}
	for i, spoil := range []func(c *api.Config){
		func(c *api.Config) { *c = api.Config{} },
		func(c *api.Config) { c.Quotas[0].Count = 0 },
		func(c *api.Config) { c.Quotas[1].Period = api.MaxSpan + 1 },
		func(c *api.Config) { c.Quotas[2] = api.Quota{Count: 1, Period: api.MaxSpan, Burst: api.MaxSpan} },
		func(c *api.Config) { c.Shards = 0 },
		func(c *api.Config) { c.Shards = -1 << 63 },
		func(c *api.Config) { c.Shards = api.MaxShard + 1 },
		func(c *api.Config) { c.Slots = api.MinSlots - 1 },
		func(c *api.Config) { c.Slots = 1<<63 - 1 },
		func(c *api.Config) { c.Every = 0 },
		func(c *api.Config) { c.Delay = -1 },
		func(c *api.Config) { c.Queue = api.MaxQueue + 1 },
		func(c *api.Config) { c.Overrides = []api.Override{{Level: 3, Quota: q}} },
		func(c *api.Config) { c.Overrides = []api.Override{{Level: 1, Quota: q}, {Level: 1, Quota: q}} },
	} {
		c := small()
		spoil(&c)
		if m, e := meter.New(c); m != nil || e != api.ErrArg {
			t.Errorf("P3: New of config %d = %v, %d, want nil, ErrArg", i, m, e)
		}
	}
}

func TestTime(t *testing.T) {
	m := fresh(t, small())
	if m.Now() != 0 {
		t.Errorf("P3: the time is %d at first", m.Now())
	}
	advance(t, m, 0, 0)
	advance(t, m, 7, 7)
	advance(t, m, api.MaxTime-8, api.MaxTime-1)
	advance(t, m, 0, api.MaxTime-1)
	advance(t, m, 1, api.MaxTime)
	advance(t, m, 1, api.MaxTime)
	advance(t, m, api.MaxTime, api.MaxTime)
	m = fresh(t, small())
	advance(t, m, 2, 2)
	advance(t, m, api.MaxTime, api.MaxTime)
}

// Wrong arguments are refused, and what comes behind is answered as if they had not been.
func TestErrorsChangeNothing(t *testing.T) {
	m := fresh(t, small())
	wrong := func() {
		t.Helper()
		now := m.Now()
		for _, cost := range []int{0, -1, -1 << 63, api.MaxCost + 1, 1<<63 - 1} {
			if r, e := m.Allow(api.Key{Tenant: 1, User: 1, Route: 1}, cost); r != (api.Reply{}) || e != api.ErrArg {
				t.Errorf("P5: Allow with the cost %d = %+v, %d", cost, r, e)
			}
		}
		for _, n := range []int{-1, -1 << 63} {
			if e := m.Advance(n); e != api.ErrArg || m.Now() != now {
				t.Errorf("P4: Advance(%d) = %d, then Now = %d, was %d", n, e, m.Now(), now)
			}
		}
	}
	one := api.Key{Tenant: 1, User: 1, Route: 1}
	wrong()
	ask(t, m, one, 1, allowed)
	wrong()
	ask(t, m, one, 1, allowed)
	wrong()
	ask(t, m, one, 1, denied(1, 5))
	advance(t, m, 4, 4)
	wrong()
	ask(t, m, one, 1, denied(1, 1))
	advance(t, m, 1, 5)
	wrong()
	ask(t, m, one, 1, allowed)
}

// The cost counts in full from 1 to MaxCost.
func TestCosts(t *testing.T) {
	for level := range api.Levels {
		m := fresh(t, wide(level, api.Quota{Count: 1, Period: 10, Burst: 9990}))
		ask(t, m, api.Key{}, api.MaxCost, allowed)
		ask(t, m, api.Key{}, 1, denied(level, 10))
		ask(t, m, api.Key{}, api.MaxCost, denied(level, 10000))
		advance(t, m, 9999, 9999)
		ask(t, m, api.Key{}, api.MaxCost, denied(level, 1))
		advance(t, m, 1, 10000)
		ask(t, m, api.Key{}, api.MaxCost, allowed)
		m = fresh(t, wide(level, api.Quota{Count: 1, Period: 10, Burst: 9989}))
		ask(t, m, api.Key{}, api.MaxCost, denied(level, api.Never))
		ask(t, m, api.Key{}, api.MaxCost-1, allowed)
	}
}

// The least level that denies is told, but the longest wait of all levels.
func TestRetryIsTheLongest(t *testing.T) {
	c := small()
	c.Quotas = [api.Levels]api.Quota{{Count: 1, Period: 10, Burst: 0}, {Count: 1, Period: 40, Burst: 0}, {Count: 1, Period: 30, Burst: 30}}
	m := fresh(t, c)
	ask(t, m, api.Key{}, 1, allowed)
	ask(t, m, api.Key{}, 1, denied(0, 40))
	advance(t, m, 10, 10)
	ask(t, m, api.Key{}, 1, denied(1, 30))
	ask(t, m, api.Key{}, 2, denied(0, api.Never))
	advance(t, m, 30, 40)
	ask(t, m, api.Key{}, 1, allowed)
}

// Near the end of time the marks go beyond it, and waits are told as if it had no end.
func TestEndOfTime(t *testing.T) {
	m := fresh(t, wide(2, api.Quota{Count: 1, Period: api.MaxSpan}))
	advance(t, m, api.MaxTime, api.MaxTime)
	ask(t, m, api.Key{}, api.MaxCost, denied(2, api.Never))
	ask(t, m, api.Key{}, 1, allowed)
	ask(t, m, api.Key{}, 1, denied(2, api.MaxSpan))
	advance(t, m, api.MaxTime, api.MaxTime)
	ask(t, m, api.Key{}, 1, denied(2, api.MaxSpan))
	ask(t, m, api.Key{Route: 1}, 1, allowed)
}

// A tenant's shard is its number modulo Shards: a full shard leaves the others their room.
func TestShards(t *testing.T) {
	for shards := 1; shards <= api.MaxShard; shards++ {
		c := small()
		c.Shards, c.Slots = shards, api.MinSlots
		m := fresh(t, c)
		for tenant := range shards {
			ask(t, m, api.Key{Tenant: uint16(65532 - 65532%shards + tenant)}, 1, allowed)
		}
		for tenant := range 8 {
			ask(t, m, api.Key{Tenant: uint16(tenant)}, 1, full)
		}
		advance(t, m, 5, 5)
		for tenant := range shards {
			ask(t, m, api.Key{Tenant: uint16(tenant)}, 1, allowed)
			ask(t, m, api.Key{Tenant: uint16(tenant + shards)}, 1, full)
		}
	}
}

// Thousands of keys come and go through a few slots.
func TestKeysAreForgotten(t *testing.T) {
	c := small()
	c.Slots = api.MinSlots
	m := fresh(t, c)
	for i := range 5000 {
		k := api.Key{Tenant: uint16(i % 7), User: uint16(i), Route: uint16(i * 3)}
		ask(t, m, k, 2, allowed)
		ask(t, m, k, 2, denied(0, 10))
		ask(t, m, api.Key{Tenant: 9}, 1, full)
		advance(t, m, 10, uint64(10*(i+1)))
	}
}

// The overrides that New was given may be changed afterwards; New itself changes neither them nor their spare room.
func TestOverridesAreNotKept(t *testing.T) {
	c := wide(0, api.Quota{Count: 1, Period: 100, Burst: 1000})
	room := []api.Override{
		{Level: 0, Key: api.Key{Tenant: 1}, Quota: api.Quota{Count: 1, Period: 10}},
		{Level: 1, Key: api.Key{Tenant: 2, User: 5}, Quota: api.Quota{Count: 1, Period: 20}},
		{Level: 2, Key: api.Key{Tenant: 2, User: 6, Route: 7}, Quota: api.Quota{Count: 1, Period: 30}},
		{Level: 3},
	}
	before := slices.Clone(room)
	c.Overrides = room[:3]
	m := fresh(t, c)
	if !slices.Equal(room, before) {
		t.Errorf("P2: New made %v of %v", room, before)
	}
	clear(room)
	ask(t, m, api.Key{Tenant: 1}, 1, allowed)
	ask(t, m, api.Key{Tenant: 1, User: 1}, 1, denied(0, 10))
	ask(t, m, api.Key{Tenant: 2, User: 5}, 1, allowed)
	ask(t, m, api.Key{Tenant: 2, User: 5, Route: 1}, 1, denied(1, 20))
	ask(t, m, api.Key{Tenant: 2, User: 6, Route: 7}, 1, allowed)
	ask(t, m, api.Key{Tenant: 2, User: 6, Route: 7}, 1, denied(2, 30))
	ask(t, m, api.Key{Tenant: 2, User: 6, Route: 8}, 2, allowed)
}

// Meters do not touch each other.
func TestMetersAreApart(t *testing.T) {
	a, b := fresh(t, small()), fresh(t, small())
	one := api.Key{Tenant: 1, User: 1, Route: 1}
	ask(t, a, one, 2, allowed)
	advance(t, a, 4, 4)
	if b.Now() != 0 {
		t.Errorf("P2: another meter's time went on to %d", b.Now())
	}
	ask(t, b, one, 2, allowed)
	ask(t, b, one, 1, denied(1, 5))
	ask(t, a, one, 1, denied(1, 1))
}

// Requests may come from several goroutines: each tenant gets just what its rate allows, while time is told beside it.
func TestSideBySide(t *testing.T) {
	c := wide(0, api.Quota{Count: 1, Period: 1, Burst: 49})
	c.Shards = api.MaxShard
	m := fresh(t, c)
	const tenants, askers = 8, 3
	var through [tenants][askers]int
	var group sync.WaitGroup
	for tenant := range tenants {
		for asker := range askers {
			group.Go(func() {
				for range 50 {
					r, e := m.Allow(api.Key{Tenant: uint16(tenant)}, 1)
					if e == api.OK && r == allowed {
						through[tenant][asker]++
					}
					m.Advance(0)
					m.Now()
				}
			})
		}
	}
	group.Wait()
	for tenant, counts := range through {
		if sum := counts[0] + counts[1] + counts[2]; sum != 50 {
			t.Errorf("P5: tenant %d: %d requests were let through, want 50", tenant, sum)
		}
	}
}

// No step of time is lost when several goroutines let it go on.
func TestTimeSideBySide(t *testing.T) {
	m := fresh(t, small())
	var group sync.WaitGroup
	for range 8 {
		group.Go(func() {
			for range 2000 {
				m.Advance(1)
			}
		})
	}
	group.Wait()
	if m.Now() != 16000 {
		t.Errorf("P4: 16000 steps of 1, then Now = %d", m.Now())
	}
}
