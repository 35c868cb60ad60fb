package meter_test

import (
	"math/big"
	"math/rand"
	"slices"
	"sync"
	"testing"

	"meter/api"
	"meter/meter"
)

// spaced is the config of the examples, but for how items are spaced out.
func spaced(every, delay, queue int) api.Config {
	c := small()
	c.Every, c.Delay, c.Queue = every, delay, queue
	return c
}

func submit(t *testing.T, m *meter.Meter, tenant uint16, item uint32, status api.Status, due uint64) {
	t.Helper()
	if s, d := m.Submit(tenant, item); s != status || d != due {
		t.Errorf("P8: Submit(%d, %d) = %d, %d, want %d, %d", tenant, item, s, d, status, due)
	}
}

func poll(t *testing.T, m *meter.Meter, most int, want ...api.Item) {
	t.Helper()
	if got := m.Poll(most); !slices.Equal(got, want) {
		t.Errorf("P9: Poll(%d) = %v, want %v", most, got, want)
	}
}

func TestItemExamples(t *testing.T) {
	m := fresh(t, small())
	advance(t, m, 5, 5)
	submit(t, m, 7, 100, api.Accepted, 5)
	submit(t, m, 7, 101, api.Accepted, 8)
	submit(t, m, 7, 102, api.TooLate, 0)
	submit(t, m, 8, 103, api.Queued, 0)
	poll(t, m, 9, api.Item{Tenant: 7, Item: 100, Due: 5})
	submit(t, m, 8, 103, api.Accepted, 5)
	advance(t, m, 3, 8)
	poll(t, m, 9, api.Item{Tenant: 8, Item: 103, Due: 5}, api.Item{Tenant: 7, Item: 101, Due: 8})
	poll(t, m, 9)
}

// Every, Delay and Queue at their least and at their greatest, each apart from the others.
func TestItemBounds(t *testing.T) {
	m := fresh(t, spaced(1, 0, api.MaxQueue))
	for i := range api.MaxQueue {
		submit(t, m, 1, uint32(i), api.Accepted, uint64(i))
		submit(t, m, 1, 99, api.TooLate, 0)
		advance(t, m, 1, uint64(i+1))
	}
	submit(t, m, 1, 99, api.Queued, 0)
	m = fresh(t, spaced(1, api.MaxSpan, 0))
	submit(t, m, 1, 1, api.Queued, 0)
	poll(t, m, 1)
	m = fresh(t, spaced(api.MaxSpan, api.MaxSpan, 3))
	submit(t, m, 1, 1, api.Accepted, 0)
	submit(t, m, 1, 2, api.Accepted, api.MaxSpan)
	submit(t, m, 1, 3, api.TooLate, 0)
	advance(t, m, api.MaxSpan-1, api.MaxSpan-1)
	poll(t, m, 9, api.Item{Tenant: 1, Item: 1})
	submit(t, m, 1, 4, api.TooLate, 0)
	advance(t, m, 1, api.MaxSpan)
	submit(t, m, 1, 5, api.Accepted, 2*api.MaxSpan)
	poll(t, m, 9, api.Item{Tenant: 1, Item: 2, Due: api.MaxSpan})
}

// At the end of time items may be due beyond it: they wait for ever, and their places with them.
func TestItemsAtTheEndOfTime(t *testing.T) {
	m := fresh(t, spaced(api.MaxSpan, api.MaxSpan, 2))
	advance(t, m, api.MaxTime, api.MaxTime)
	submit(t, m, 65535, 1<<32-1, api.Accepted, api.MaxTime)
	submit(t, m, 65535, 1, api.Accepted, api.MaxTime+api.MaxSpan)
	submit(t, m, 65535, 2, api.TooLate, 0)
	submit(t, m, 0, 3, api.Queued, 0)
	poll(t, m, 1<<63-1, api.Item{Tenant: 65535, Item: 1<<32 - 1, Due: api.MaxTime})
	submit(t, m, 65535, 2, api.TooLate, 0)
	submit(t, m, 0, 3, api.Accepted, api.MaxTime)
	advance(t, m, api.MaxTime, api.MaxTime)
	poll(t, m, 9, api.Item{Tenant: 0, Item: 3, Due: api.MaxTime})
	submit(t, m, 0, 4, api.Accepted, api.MaxTime+api.MaxSpan)
	submit(t, m, 1, 5, api.Queued, 0)
	poll(t, m, 9)
}

// The places of the queue are for all tenants together, whatever their shards.
func TestQueueIsOneForAllShards(t *testing.T) {
	c := spaced(10, 20, 3)
	c.Shards = api.MaxShard
	m := fresh(t, c)
	submit(t, m, 3, 1, api.Accepted, 0)
	submit(t, m, 2, 2, api.Accepted, 0)
	submit(t, m, 1, 3, api.Accepted, 0)
	submit(t, m, 0, 4, api.Queued, 0)
	submit(t, m, 7, 4, api.Queued, 0)
	poll(t, m, 2, api.Item{Tenant: 3, Item: 1}, api.Item{Tenant: 2, Item: 2})
	submit(t, m, 3, 5, api.Accepted, 10)
	submit(t, m, 7, 6, api.Accepted, 0)
	poll(t, m, 9, api.Item{Tenant: 1, Item: 3}, api.Item{Tenant: 7, Item: 6})
}

// Requests and items do not touch each other, and wrong calls touch neither.
func TestItemsApartFromRequests(t *testing.T) {
	m := fresh(t, small())
	key := api.Key{Tenant: 7, User: 1, Route: 1}
	ask(t, m, key, 2, allowed)
	submit(t, m, 7, 1, api.Accepted, 0)
	submit(t, m, 7, 2, api.Accepted, 3)
	ask(t, m, key, 1, denied(1, 5))
	ask(t, m, api.Key{Tenant: 8}, 1, allowed)
	ask(t, m, api.Key{Tenant: 9}, 1, full)
	if e := m.Advance(-1); e != api.ErrArg {
		t.Errorf("P4: Advance(-1) = %d", e)
	}
	if r, e := m.Allow(key, 0); r != (api.Reply{}) || e != api.ErrArg {
		t.Errorf("P5: Allow with the cost 0 = %v, %d", r, e)
	}
	for _, most := range []int{0, -1, -1 << 63} {
		poll(t, m, most)
	}
	submit(t, m, 9, 3, api.Queued, 0)
	poll(t, m, 1, api.Item{Tenant: 7, Item: 1})
	submit(t, m, 9, 3, api.Accepted, 0)
	ask(t, m, key, 1, denied(1, 5))
}

// What Poll answered stays as it is, and what is done to it or its spare room is not seen by the meter.
func TestPolledIsNewMemory(t *testing.T) {
	m := fresh(t, spaced(1, 0, 30))
	for i := range uint16(30) {
		submit(t, m, i, uint32(i), api.Accepted, 0)
	}
	for i := range uint16(10) {
		got := m.Poll(2)
		m.Submit(100+i, 7)
		want := []api.Item{{Tenant: 2 * i, Item: uint32(2 * i)}, {Tenant: 2*i + 1, Item: uint32(2*i + 1)}}
		if !slices.Equal(got, want) {
			t.Fatalf("P2, P9: Poll(2) = %v, want %v", got, want)
		}
		got = got[:cap(got)]
		for j := range got {
			got[j] = api.Item{Tenant: 999, Item: 999, Due: 999}
		}
	}
	if got := m.Poll(99); len(got) != 20 || got[0].Item != 20 || got[9].Item != 29 || got[10].Tenant != 100 || got[19].Tenant != 109 {
		t.Errorf("P2, P9: Poll(99) = %v", got)
	}
}

// Items come from several goroutines: each tenant's stay spaced out, none is lost and none told twice.
func TestItemsSideBySide(t *testing.T) {
	m := fresh(t, spaced(3, 30, api.MaxQueue))
	const tenants, each = 4, 200
	var dues [tenants][]uint64
	told := make([][]api.Item, tenants)
	var group sync.WaitGroup
	for k := range tenants {
		group.Go(func() {
			for i := range each {
				if s, due := m.Submit(uint16(k), uint32(i)); s == api.Accepted {
					dues[k] = append(dues[k], due)
				}
				m.Advance(1)
				told[k] = append(told[k], m.Poll(2)...)
			}
		})
	}
	group.Wait()
	m.Advance(100)
	all := slices.Concat(append(told, m.Poll(api.MaxQueue))...)
	for k := range tenants {
		var got []uint64
		for _, x := range all {
			if int(x.Tenant) == k {
				got = append(got, x.Due)
			}
		}
		slices.Sort(got)
		if !slices.Equal(got, dues[k]) {
			t.Errorf("P9: tenant %d: due at %v, told %v", k, dues[k], got)
		}
		for i := 1; i < len(got); i++ {
			if got[i]-got[i-1] < 3 {
				t.Errorf("P8: tenant %d: %d and %d are less than 3 apart", k, got[i-1], got[i])
			}
		}
	}
}

// waiter is an item that waits in the model.
type waiter struct {
	item api.Item
	due  *big.Int
}

// items takes up and tells as P8 and P9 say, word by word, in whole numbers without bounds, and never forgets a turn.
type items struct {
	config api.Config
	turns  map[uint16]*big.Int
	waits  []waiter // in the order in which they were submitted
}

func (s *items) submit(now *big.Int, tenant uint16, item uint32) (api.Status, uint64) {
	turn := s.turns[tenant]
	if turn == nil {
		turn = new(big.Int)
	}
	due := greater(turn, now)
	if new(big.Int).Sub(due, now).Cmp(whole(s.config.Delay)) > 0 {
		return api.TooLate, 0
	}
	if len(s.waits) == s.config.Queue {
		return api.Queued, 0
	}
	s.waits = append(s.waits, waiter{api.Item{Tenant: tenant, Item: item, Due: due.Uint64()}, due})
	s.turns[tenant] = sum(due, whole(s.config.Every))
	return api.Accepted, due.Uint64()
}

// first is the place of the item that is due first; -1, if none is due.
func (s *items) first(now *big.Int) int {
	best := -1
	for i, w := range s.waits {
		if w.due.Cmp(now) <= 0 && (best < 0 || w.due.Cmp(s.waits[best].due) < 0) {
			best = i
		}
	}
	return best
}

func (s *items) poll(now *big.Int, most int) []api.Item {
	var told []api.Item
	for len(told) < most {
		i := s.first(now)
		if i < 0 {
			break
		}
		told = append(told, s.waits[i].item)
		s.waits = slices.Delete(s.waits, i, i+1)
	}
	return told
}

// drawSpaced draws how items are spaced out: small numbers, or ones up to the bounds.
func drawSpaced(r *rand.Rand, great bool) api.Config {
	queue := drawNumber(r, 0, api.MaxQueue)
	if great {
		return spaced(drawNumber(r, 1, api.MaxSpan), drawNumber(r, 0, api.MaxSpan), queue)
	}
	return spaced(1+r.Intn(9), r.Intn(40), queue)
}

func runItems(t *testing.T, r *rand.Rand, great bool) {
	c := drawSpaced(r, great)
	m := fresh(t, c)
	s := &items{config: c, turns: map[uint16]*big.Int{}}
	clock := &model{now: new(big.Int)}
	for i := range uint32(150) {
		switch r.Intn(5) {
		case 0:
			n := drawStep(r, great)
			clock.advance(n)
			advance(t, m, n, clock.now.Uint64())
		case 1:
			most := r.Intn(8) - 1
			poll(t, m, most, s.poll(clock.now, most)...)
		default:
			tenant := uint16(r.Intn(5)) * 16383
			status, due := s.submit(clock.now, tenant, i)
			submit(t, m, tenant, i, status, due)
		}
		if t.Failed() {
			t.Fatalf("with %+v at %d", c, clock.now)
		}
	}
}

func TestItemsDrawnSmall(t *testing.T) {
	r := rand.New(rand.NewSource(21))
	for range 400 {
		runItems(t, r, false)
	}
}

func TestItemsDrawnGreat(t *testing.T) {
	r := rand.New(rand.NewSource(22))
	for range 400 {
		runItems(t, r, true)
	}
}
