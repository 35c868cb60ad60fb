package meter

import (
	"testing"

	"meter/api"
	"meter/wire"
)

// A request is its shard's to decide, so that shards work side by side; no answer would tell if one worker did all.
func TestWorkers(t *testing.T) {
	for shards := 1; shards <= api.MaxShard; shards++ {
		q := api.Quota{Count: 1, Period: 1}
		m, e := New(api.Config{Quotas: [api.Levels]api.Quota{q, q, q}, Shards: shards, Slots: api.MinSlots, Every: 1})
		if e != api.OK {
			t.Fatalf("P3: New: %d", e)
		}
		for tenant := range 65536 {
			c := wire.Command{Kind: wire.Allow, Key: api.Key{Tenant: uint16(tenant), User: 1, Route: 2}, Cost: 1}
			if got := m.workerOf(c); got != tenant%shards {
				t.Fatalf("Ways: of %d shards, number %d decides for tenant %d", shards, got, tenant)
			}
		}
		for _, c := range []wire.Command{{}, {Kind: wire.Submit, Tenant: 1}, {Kind: wire.Poll, Most: 1}, {Kind: wire.Advance, Span: 1}} {
			if got := m.workerOf(c); got != shards {
				t.Errorf("Ways: of %d shards, number %d does what is no request: %+v", shards, got, c)
			}
		}
	}
}
