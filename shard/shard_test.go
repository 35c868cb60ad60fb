package shard

import (
	"maps"
	"math/rand"
	"sync"
	"testing"

	"meter/api"
	"meter/place"
	"meter/plan"
)

// fresh makes a shard whose quotas all have this period and burst.
func fresh(t *testing.T, slots, period, burst int) *Shard {
	t.Helper()
	q := api.Quota{Count: 1, Period: period, Burst: burst}
	p, e := plan.Of(api.Config{Quotas: [api.Levels]api.Quota{q, q, q}, Shards: 1, Slots: slots, Every: 1})
	if e != api.OK {
		t.Fatalf("plan.Of: %d", e)
	}
	return New(p, slots)
}

func ask(t *testing.T, s *Shard, k api.Key, cost int, now uint64, want api.Reply) {
	t.Helper()
	if got := s.Allow(k, cost, now); got != want {
		t.Errorf("Allow(%v, %d, %d) = %+v, want %+v", k, cost, now, got, want)
	}
}

var (
	allowed = api.Reply{Status: api.Allowed}
	full    = api.Reply{Status: api.Full}
)

// With MinSlots there is room for one request's keys alone, until they sleep: at their mark, not one nanosecond earlier.
func TestRoomForOne(t *testing.T) {
	s := fresh(t, api.MinSlots, 10, 0)
	ask(t, s, api.Key{Tenant: 1, User: 1, Route: 1}, 1, 0, allowed)
	ask(t, s, api.Key{Tenant: 1, User: 1, Route: 2}, 1, 0, full)
	ask(t, s, api.Key{Tenant: 2}, 1, 9, full)
	ask(t, s, api.Key{Tenant: 2}, 1, 10, allowed)
	ask(t, s, api.Key{Tenant: 1, User: 1, Route: 1}, 1, 10, full)
}

// A key that is awake already takes no second slot.
func TestAwakeKeysCountOnce(t *testing.T) {
	s := fresh(t, 5, 10, 100)
	ask(t, s, api.Key{Tenant: 1, User: 1, Route: 1}, 1, 0, allowed)
	ask(t, s, api.Key{Tenant: 1, User: 1, Route: 1}, 1, 0, allowed)
	ask(t, s, api.Key{Tenant: 1, User: 1, Route: 2}, 1, 0, allowed)
	ask(t, s, api.Key{Tenant: 1, User: 2, Route: 1}, 1, 0, full)
	ask(t, s, api.Key{Tenant: 1, User: 1, Route: 3}, 1, 0, allowed)
	ask(t, s, api.Key{Tenant: 1, User: 1, Route: 4}, 1, 0, full)
	ask(t, s, api.Key{Tenant: 1, User: 1, Route: 3}, 1, 0, allowed)
}

// Full comes ahead of Denied.
func TestFullComesFirst(t *testing.T) {
	s := fresh(t, 4, 10, 0)
	ask(t, s, api.Key{Tenant: 1}, 1, 0, allowed)
	ask(t, s, api.Key{Tenant: 1, Route: 1}, 2, 0, api.Reply{Status: api.Denied, Retry: api.Never})
	ask(t, s, api.Key{Tenant: 2}, 2, 0, full)
}

// Only an Allowed request leaves marks.
func TestOthersLeaveNoMark(t *testing.T) {
	s := fresh(t, 4, 10, 0)
	ask(t, s, api.Key{Tenant: 3}, 2, 0, api.Reply{Status: api.Denied, Retry: api.Never})
	if len(s.marks) != 0 {
		t.Errorf("P5: a denied request left %v", s.marks)
	}
	ask(t, s, api.Key{Tenant: 3}, 1, 0, allowed)
	before := maps.Clone(s.marks)
	ask(t, s, api.Key{Tenant: 3, Route: 1}, 1, 0, api.Reply{Status: api.Denied, Retry: 10})
	ask(t, s, api.Key{Tenant: 4}, 1, 0, full)
	if !maps.Equal(s.marks, before) {
		t.Errorf("P5: a denied and a full request left %v, had %v", s.marks, before)
	}
}

// Keys are kept by their level and what is known of them there.
func TestMarksByPlace(t *testing.T) {
	s := fresh(t, 6, 10, 100)
	ask(t, s, api.Key{Tenant: 1, User: 2, Route: 3}, 2, 5, allowed)
	want := map[place.Place]uint64{
		{Level: place.Tenant, Key: api.Key{Tenant: 1}}:                   25,
		{Level: place.User, Key: api.Key{Tenant: 1, User: 2}}:            25,
		{Level: place.Route, Key: api.Key{Tenant: 1, User: 2, Route: 3}}: 25,
	}
	if !maps.Equal(s.marks, want) {
		t.Errorf("P5: the marks are %v, want %v", s.marks, want)
	}
}

// Whatever comes, no more than slots keys are kept.
func TestKeepsNoMoreThanSlots(t *testing.T) {
	r := rand.New(rand.NewSource(7))
	for slots := api.MinSlots; slots <= api.MaxSlots; slots++ {
		s := fresh(t, slots, 1+r.Intn(9), r.Intn(300))
		now := uint64(0)
		for range 500 {
			now += uint64(r.Intn(4))
			k := api.Key{Tenant: uint16(r.Intn(20)), User: uint16(r.Intn(4)), Route: uint16(r.Intn(4))}
			s.Allow(k, 1+r.Intn(3), now)
			if len(s.marks) > slots {
				t.Fatalf("P7: %d keys are kept with %d slots", len(s.marks), slots)
			}
		}
	}
}

// Requests that come at the same time are decided one behind the other: just as many are let through as the burst allows.
func TestLock(t *testing.T) {
	s := fresh(t, api.MinSlots, 1, 99)
	var group sync.WaitGroup
	var through [8]int
	for i := range through {
		group.Go(func() {
			for range 100 {
				if s.Allow(api.Key{}, 1, 0) == allowed {
					through[i]++
				}
			}
		})
	}
	group.Wait()
	sum := 0
	for _, n := range through {
		sum += n
	}
	if sum != 100 {
		t.Errorf("%d requests were let through, want 100", sum)
	}
}
