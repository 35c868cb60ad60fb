package plan

import (
	"slices"
	"testing"

	"meter/api"
	"meter/place"
	"meter/rate"
)

func good() api.Config {
	q := api.Quota{Count: 1, Period: 10, Burst: 10}
	return api.Config{Quotas: [api.Levels]api.Quota{q, q, q}, Shards: 1, Slots: 6, Every: 3, Delay: 5, Queue: 2}
}

func overrides(n int) []api.Override {
	var list []api.Override
	for i := range n {
		list = append(list, api.Override{Level: i % api.Levels, Key: api.Key{Tenant: uint16(i)}, Quota: api.Quota{Count: 1, Period: 20}})
	}
	return list
}

func check(t *testing.T, name string, c api.Config, holds bool) {
	t.Helper()
	p, e := Of(c)
	if holds && (p == nil || e != api.OK) {
		t.Errorf("P3: %s: Of = %v, %d, want a plan", name, p, e)
	}
	if !holds && (p != nil || e != api.ErrArg) {
		t.Errorf("P3: %s: Of = %v, %d, want nil, ErrArg", name, p, e)
	}
}

// Each plain number holds from its least to its most, and not outside.
func TestSizes(t *testing.T) {
	for _, f := range []struct {
		name        string
		least, most int
		set         func(c *api.Config, n int)
	}{
		{"Shards", 1, api.MaxShard, func(c *api.Config, n int) { c.Shards = n }},
		{"Slots", api.MinSlots, api.MaxSlots, func(c *api.Config, n int) { c.Slots = n }},
		{"Every", 1, api.MaxSpan, func(c *api.Config, n int) { c.Every = n }},
		{"Delay", 0, api.MaxSpan, func(c *api.Config, n int) { c.Delay = n }},
		{"Queue", 0, api.MaxQueue, func(c *api.Config, n int) { c.Queue = n }},
	} {
		for _, n := range []int{-1 << 63, -1, f.least - 1, f.least, f.least + 1, f.most - 1, f.most, f.most + 1, 1<<63 - 1} {
			c := good()
			f.set(&c, n)
			check(t, f.name, c, n >= f.least && n <= f.most)
		}
	}
}

func TestQuotas(t *testing.T) {
	check(t, "a config", good(), true)
	check(t, "no numbers at all", api.Config{}, false)
	for level := range api.Levels {
		c := good()
		c.Quotas[level].Burst = api.MaxSpan - 10
		check(t, "the greatest burst", c, true)
		c.Quotas[level].Burst++
		check(t, "a burst too great", c, false)
	}
}

func TestOverridesHold(t *testing.T) {
	q := api.Quota{Count: 1, Period: 1}
	key := api.Key{Tenant: 1, User: 2, Route: 3}
	for _, list := range [][]api.Override{
		nil,
		{},
		overrides(api.MaxOver),
		{{Level: 0, Key: api.Key{Tenant: 1}, Quota: q}, {Level: 1, Key: api.Key{Tenant: 1}, Quota: q}, {Level: 2, Key: api.Key{Tenant: 1}, Quota: q}},
		{{Level: 2, Key: key, Quota: q}, {Level: 2, Key: api.Key{Tenant: 1, User: 2, Route: 4}, Quota: q}},
		{{Level: 1, Key: api.Key{User: 65535}, Quota: q}, {Level: 2, Key: api.Key{Route: 65535}, Quota: q}},
	} {
		c := good()
		c.Overrides = list
		check(t, "overrides", c, true)
	}
}

func TestOverridesWrong(t *testing.T) {
	q := api.Quota{Count: 1, Period: 1}
	other := api.Quota{Count: 2, Period: 2}
	key := api.Key{Tenant: 1, User: 2, Route: 3}
	for _, list := range [][]api.Override{
		overrides(api.MaxOver + 1),
		overrides(100),
		{{Level: -1, Quota: q}},
		{{Level: -1 << 63, Quota: q}},
		{{Level: api.Levels, Key: key, Quota: q}},
		{{Level: 1<<63 - 1, Key: key, Quota: q}},
		{{Level: 0, Key: api.Key{Tenant: 1, User: 1}, Quota: q}},
		{{Level: 0, Key: api.Key{Tenant: 1, Route: 1}, Quota: q}},
		{{Level: 1, Key: key, Quota: q}},
		{{Level: 0, Quota: q}, {Level: 0, Quota: other}},
		{{Level: 2, Key: key, Quota: q}, {Level: 0, Quota: q}, {Level: 2, Key: key, Quota: q}},
		{{Level: 2, Key: key}},
		{{Level: 2, Key: key, Quota: api.Quota{Count: 1, Period: 1, Burst: api.MaxSpan}}},
		append(overrides(api.MaxOver-1), api.Override{Level: 3, Quota: q}),
	} {
		c := good()
		c.Overrides = list
		check(t, "wrong overrides", c, false)
	}
}

// The list of overrides, and its spare room, stay as they are; the plan does not hang on them afterwards.
func TestOverridesAreNotKept(t *testing.T) {
	room := overrides(api.MaxOver)
	before := slices.Clone(room)
	c := good()
	c.Overrides = room[:3]
	p, e := Of(c)
	if e != api.OK || !slices.Equal(room, before) {
		t.Fatalf("P2: Of: %d; the list is %v, was %v", e, room, before)
	}
	clear(room)
	checkRate(t, p, place.At(1, api.Key{Tenant: 1}), api.Quota{Count: 1, Period: 20})
	checkRate(t, p, place.At(0, api.Key{Tenant: 3}), c.Quotas[0])
}

func checkRate(t *testing.T, p *Plan, w place.Place, q api.Quota) {
	t.Helper()
	want, ok := rate.Of(q)
	if got := p.RateAt(w); !ok || got != want {
		t.Errorf("P5: the rate at %v is %v, want %v", w, got, want)
	}
}

// An override holds for its key at its level and for nothing else.
func TestRateAt(t *testing.T) {
	c := good()
	for level := range c.Quotas {
		c.Quotas[level].Period = 100 + level
	}
	own := api.Quota{Count: 1, Period: 7}
	c.Overrides = []api.Override{{Level: 1, Key: api.Key{Tenant: 1, User: 2}, Quota: own}}
	p, e := Of(c)
	if e != api.OK {
		t.Fatalf("Of: %d", e)
	}
	key := api.Key{Tenant: 1, User: 2, Route: 3}
	checkRate(t, p, place.At(0, key), c.Quotas[0])
	checkRate(t, p, place.At(1, key), own)
	checkRate(t, p, place.At(2, key), c.Quotas[2])
	checkRate(t, p, place.At(2, api.Key{Tenant: 1, User: 2}), c.Quotas[2])
	checkRate(t, p, place.At(1, api.Key{Tenant: 2, User: 2}), c.Quotas[1])
	checkRate(t, p, place.At(1, api.Key{Tenant: 1, User: 3}), c.Quotas[1])
}
