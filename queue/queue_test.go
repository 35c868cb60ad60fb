package queue

import (
	"slices"
	"testing"

	"meter/api"
)

func submit(t *testing.T, q *Queue, now uint64, tenant uint16, item uint32, status api.Status, due uint64) {
	t.Helper()
	if s, d := q.Submit(tenant, item, now); s != status || d != due {
		t.Errorf("P8: at %d: Submit(%d, %d) = %d, %d, want %d, %d", now, tenant, item, s, d, status, due)
	}
}

func poll(t *testing.T, q *Queue, now uint64, most int, want ...api.Item) {
	t.Helper()
	if got := q.Poll(most, now); !slices.Equal(got, want) {
		t.Errorf("P9: at %d: Poll(%d) = %v, want %v", now, most, got, want)
	}
}

func TestSpacing(t *testing.T) {
	q := New(10, 25, 50)
	submit(t, q, 3, 1, 100, api.Accepted, 3)
	submit(t, q, 3, 1, 101, api.Accepted, 13)
	submit(t, q, 4, 1, 102, api.Accepted, 23)
	submit(t, q, 7, 1, 103, api.TooLate, 0)
	submit(t, q, 8, 1, 104, api.Accepted, 33)
	submit(t, q, 8, 2, 105, api.Accepted, 8)
	submit(t, q, 42, 1, 106, api.Accepted, 43)
	submit(t, q, 53, 1, 107, api.Accepted, 53)
	submit(t, q, 64, 1, 108, api.Accepted, 64)
}

// An item that is too late is so even if too many wait; neither takes a turn.
func TestRefusals(t *testing.T) {
	q := New(10, 5, 1)
	submit(t, q, 0, 1, 100, api.Accepted, 0)
	submit(t, q, 0, 1, 101, api.TooLate, 0)
	submit(t, q, 0, 2, 102, api.Queued, 0)
	submit(t, q, 4, 1, 103, api.TooLate, 0)
	submit(t, q, 5, 1, 104, api.Queued, 0)
	poll(t, q, 5, 9, api.Item{Tenant: 1, Item: 100, Due: 0})
	submit(t, q, 5, 1, 105, api.Accepted, 10)
	submit(t, q, 5, 2, 106, api.Queued, 0)
	poll(t, q, 9, 9)
	submit(t, q, 9, 2, 107, api.Queued, 0)
	poll(t, q, 10, 9, api.Item{Tenant: 1, Item: 105, Due: 10})
	submit(t, q, 10, 2, 108, api.Accepted, 10)
}

func TestNoRoom(t *testing.T) {
	q := New(1, api.MaxSpan, 0)
	for now := range uint64(5) {
		submit(t, q, now, 1, 1, api.Queued, 0)
		poll(t, q, now, 9)
	}
}

func TestAllRoom(t *testing.T) {
	q := New(1, 0, api.MaxQueue)
	for i := range api.MaxQueue {
		submit(t, q, 9, uint16(i), 1<<32-1, api.Accepted, 9)
	}
	submit(t, q, 9, 65535, 1, api.Queued, 0)
	submit(t, q, 9, 3, 1, api.TooLate, 0)
	if got := q.Poll(1<<63-1, 9); len(got) != api.MaxQueue || got[49] != (api.Item{Tenant: 49, Item: 1<<32 - 1, Due: 9}) {
		t.Errorf("P9: Poll = %v", got)
	}
	submit(t, q, 9, 65535, 1, api.Accepted, 9)
}

// By the time that they are due; at one time in the order of submission, which is not that of the tenants or items.
func TestOrder(t *testing.T) {
	q := New(5, 100, 50)
	submit(t, q, 0, 9, 80, api.Accepted, 0)
	submit(t, q, 0, 9, 70, api.Accepted, 5)
	submit(t, q, 0, 9, 60, api.Accepted, 10)
	submit(t, q, 0, 4, 90, api.Accepted, 0)
	submit(t, q, 0, 4, 50, api.Accepted, 5)
	submit(t, q, 5, 6, 95, api.Accepted, 5)
	submit(t, q, 5, 4, 40, api.Accepted, 10)
	submit(t, q, 5, 3, 40, api.Accepted, 5)
	for _, most := range []int{0, -1, -1 << 63} {
		poll(t, q, 100, most)
	}
	poll(t, q, 5, 1, api.Item{Tenant: 9, Item: 80, Due: 0})
	poll(t, q, 5, 3, api.Item{Tenant: 4, Item: 90, Due: 0}, api.Item{Tenant: 9, Item: 70, Due: 5}, api.Item{Tenant: 4, Item: 50, Due: 5})
	poll(t, q, 9, 1<<63-1, api.Item{Tenant: 6, Item: 95, Due: 5}, api.Item{Tenant: 3, Item: 40, Due: 5})
	poll(t, q, 10, 2, api.Item{Tenant: 9, Item: 60, Due: 10}, api.Item{Tenant: 4, Item: 40, Due: 10})
	poll(t, q, 100, 9)
}

// The greatest numbers add up without wrapping.
func TestGreatNumbers(t *testing.T) {
	const end = uint64(api.MaxTime)
	q := New(api.MaxSpan, api.MaxSpan, 9)
	submit(t, q, end, 1, 1, api.Accepted, end)
	submit(t, q, end, 1, 2, api.Accepted, end+api.MaxSpan)
	submit(t, q, end, 1, 3, api.TooLate, 0)
	poll(t, q, end, 9, api.Item{Tenant: 1, Item: 1, Due: end})
	q = New(api.MaxSpan, api.MaxSpan-1, 9)
	submit(t, q, end, 1, 1, api.Accepted, end)
	submit(t, q, end, 1, 2, api.TooLate, 0)
}

// What is told and its spare room belong to the caller; what goes on waiting is not touched from there.
func TestAnswerIsNewMemory(t *testing.T) {
	q := New(1, 100, 50)
	for i := range uint32(20) {
		submit(t, q, 0, uint16(i), i, api.Accepted, 0)
	}
	first := q.Poll(5, 0)
	kept := slices.Clone(first)
	all := first[:cap(first)]
	poll(t, q, 0, 2, api.Item{Tenant: 5, Item: 5}, api.Item{Tenant: 6, Item: 6})
	if !slices.Equal(first, kept) {
		t.Errorf("P2: a later Poll made %v of %v", first, kept)
	}
	for i := range all {
		all[i] = api.Item{Tenant: 99, Item: 99, Due: 99}
	}
	poll(t, q, 0, 2, api.Item{Tenant: 7, Item: 7}, api.Item{Tenant: 8, Item: 8})
	submit(t, q, 0, 50, 50, api.Accepted, 0)
	if got := q.Poll(50, 0); len(got) != 12 || got[0].Item != 9 || got[11].Item != 50 {
		t.Errorf("P2: what went on waiting is %v", got)
	}
}

// Every tenant's turn counts for as long as it is to come, and goes when time reaches it.
func TestAllTenants(t *testing.T) {
	q := New(api.MaxSpan, 0, 1)
	for tenant := range uint64(1 << 16) {
		submit(t, q, tenant, uint16(tenant), 1, api.Accepted, tenant)
		poll(t, q, tenant, 1, api.Item{Tenant: uint16(tenant), Item: 1, Due: tenant})
	}
	for tenant := range uint64(1 << 16) {
		submit(t, q, api.MaxSpan+tenant-1, uint16(tenant), 2, api.TooLate, 0)
		submit(t, q, api.MaxSpan+tenant, uint16(tenant), 2, api.Accepted, api.MaxSpan+tenant)
		poll(t, q, api.MaxSpan+tenant, 1, api.Item{Tenant: uint16(tenant), Item: 2, Due: api.MaxSpan + tenant})
	}
}

// A turn that time has reached is not kept: it is as good as 0.
func TestTurnsAreForgotten(t *testing.T) {
	q := New(10, 0, 50)
	submit(t, q, 0, 1, 1, api.Accepted, 0)
	submit(t, q, 3, 2, 2, api.Accepted, 3)
	submit(t, q, 10, 3, 3, api.Accepted, 10)
	for tenant, want := range []uint64{0, 0, 13, 20} {
		if got := q.turns.Of(uint16(tenant)); got != want {
			t.Errorf("P8: at 10 the turn that is kept for tenant %d is %d, want %d", tenant, got, want)
		}
	}
}
