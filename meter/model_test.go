package meter_test

import (
	"math/big"
	"math/rand"
	"testing"

	"meter/api"
	"meter/meter"
)

// spot is a key at a level; what is not known there is 0.
type spot struct {
	level               int
	tenant, user, route uint16
}

// model decides as P5 and P6 say, word by word, in whole numbers without bounds, and never forgets a mark.
type model struct {
	config api.Config
	now    *big.Int
	marks  map[spot]*big.Int
}

func whole(n int) *big.Int { return big.NewInt(int64(n)) }

func sum(a, b *big.Int) *big.Int { return new(big.Int).Add(a, b) }

func product(a, b *big.Int) *big.Int { return new(big.Int).Mul(a, b) }

func greater(a, b *big.Int) *big.Int {
	if a.Cmp(b) > 0 {
		return a
	}
	return b
}

func spotsOf(k api.Key) [api.Levels]spot {
	return [api.Levels]spot{{0, k.Tenant, 0, 0}, {1, k.Tenant, k.User, 0}, {2, k.Tenant, k.User, k.Route}}
}

func (m *model) quota(s spot) api.Quota {
	for _, o := range m.config.Overrides {
		if s == (spot{o.Level, o.Key.Tenant, o.Key.User, o.Key.Route}) {
			return o.Quota
		}
	}
	return m.config.Quotas[s.level]
}

func interval(q api.Quota) *big.Int {
	part, rest := new(big.Int).DivMod(whole(q.Period), whole(q.Count), new(big.Int))
	if rest.Sign() > 0 {
		part.Add(part, whole(1))
	}
	return part
}

func (m *model) mark(s spot) *big.Int {
	if x := m.marks[s]; x != nil {
		return x
	}
	return new(big.Int)
}

// next is the mark that the request would leave at a spot, at a time.
func (m *model) next(s spot, cost int, at *big.Int) *big.Int {
	return sum(greater(m.mark(s), at), product(whole(cost), interval(m.quota(s))))
}

func (m *model) letsThrough(s spot, cost int, at *big.Int) bool {
	q := m.quota(s)
	return m.next(s, cost, at).Cmp(sum(sum(at, whole(q.Burst)), interval(q))) <= 0
}

// refuser is the least level that does not let the request through at a time; Levels, if all do.
func (m *model) refuser(k api.Key, cost int, at *big.Int) int {
	for level, s := range spotsOf(k) {
		if !m.letsThrough(s, cost, at) {
			return level
		}
	}
	return api.Levels
}

func (m *model) hasRoom(k api.Key) bool {
	counted := map[spot]int{}
	for s, x := range m.marks {
		if x.Cmp(m.now) > 0 && int(s.tenant)%m.config.Shards == int(k.Tenant)%m.config.Shards {
			counted[s]++
		}
	}
	for _, s := range spotsOf(k) {
		counted[s]++
	}
	return len(counted) <= m.config.Slots
}

// check holds a reply against the promises, and takes the request's marks up if it was allowed.
func (m *model) check(t *testing.T, k api.Key, cost int, got api.Reply) {
	t.Helper()
	refuser := m.refuser(k, cost, m.now)
	want := denied(refuser, got.Retry)
	switch {
	case !m.hasRoom(k):
		want = full
	case refuser == api.Levels:
		want = allowed
		for _, s := range spotsOf(k) {
			m.marks[s] = m.next(s, cost, m.now)
		}
	default:
		m.checkRetry(t, k, cost, got.Retry)
	}
	if got != want {
		t.Fatalf("P5, P6: %+v at %d: Allow(%v, %d) = %+v, want %+v", m.config, m.now, k, cost, got, want)
	}
}

// checkRetry: at the time that is told the request would be let through, a nanosecond earlier it would not. A level that lets it through goes on doing so, so that no lesser number would do.
func (m *model) checkRetry(t *testing.T, k api.Key, cost int, retry uint64) {
	t.Helper()
	then := sum(m.now, new(big.Int).SetUint64(retry))
	if retry == api.Never {
		then = new(big.Int).Lsh(whole(1), 80)
	}
	ends := m.refuser(k, cost, then) == api.Levels
	early := m.refuser(k, cost, new(big.Int).Sub(then, whole(1))) == api.Levels
	if ends == (retry == api.Never) || early {
		t.Fatalf("P5: %+v at %d: Allow(%v, %d): Retry %d is not the least one", m.config, m.now, k, cost, retry)
	}
}

// drawNumber draws from least to most, often near to one of them.
func drawNumber(r *rand.Rand, least, most int) int {
	near := r.Intn(25)
	if most-least <= near {
		return least + r.Intn(most-least+1)
	}
	switch r.Intn(4) {
	case 0:
		return most - near
	case 1:
		return least + int(r.Int63n(int64(most-least)))
	}
	return least + near
}

// drawQuota draws small quotas, or ones up to the bounds.
func drawQuota(r *rand.Rand, great bool) api.Quota {
	if !great {
		return api.Quota{Count: 1 + r.Intn(4), Period: 1 + r.Intn(20), Burst: r.Intn(60)}
	}
	q := api.Quota{Count: drawNumber(r, 1, api.MaxCount), Period: drawNumber(r, 1, api.MaxSpan)}
	left := new(big.Int).Sub(whole(api.MaxSpan), interval(q))
	q.Burst = drawNumber(r, 0, int(left.Int64()))
	return q
}

func drawConfig(r *rand.Rand, great bool) api.Config {
	c := api.Config{Shards: 1 + r.Intn(api.MaxShard), Slots: api.MinSlots + r.Intn(12), Every: 1}
	for level := range c.Quotas {
		c.Quotas[level] = drawQuota(r, great)
	}
	taken := map[spot]int{}
	for range r.Intn(api.MaxOver + 1) {
		s := spotsOf(drawKey(r))[r.Intn(api.Levels)]
		if taken[s]++; taken[s] == 1 {
			k := api.Key{Tenant: s.tenant, User: s.user, Route: s.route}
			c.Overrides = append(c.Overrides, api.Override{Level: s.level, Key: k, Quota: drawQuota(r, great)})
		}
	}
	return c
}

func drawKey(r *rand.Rand) api.Key {
	return api.Key{Tenant: uint16(r.Intn(5)), User: uint16(r.Intn(3)), Route: uint16(r.Intn(2))}
}

func drawStep(r *rand.Rand, great bool) int {
	if great {
		return drawNumber(r, 0, api.MaxSpan/8)
	}
	return r.Intn(12)
}

func (m *model) advance(n int) {
	m.now = sum(m.now, whole(n))
	if end := whole(api.MaxTime); m.now.Cmp(end) > 0 {
		m.now = end
	}
}

// run drives two meters with the same calls: the answers keep the promises and are the same.
func run(t *testing.T, r *rand.Rand, great bool) {
	c := drawConfig(r, great)
	a, b := fresh(t, c), fresh(t, c)
	m := &model{config: c, now: new(big.Int), marks: map[spot]*big.Int{}}
	most := 5
	if r.Intn(4) == 0 {
		most = api.MaxCost
	}
	for range 60 {
		if n := drawStep(r, great); r.Intn(3) == 0 {
			m.advance(n)
			advance(t, a, n, m.now.Uint64())
			advance(t, b, n, m.now.Uint64())
		}
		k, cost := drawKey(r), drawNumber(r, 1, most)
		got := allow(t, a, k, cost)
		m.check(t, k, cost, got)
		if again := allow(t, b, k, cost); again != got {
			t.Fatalf("P2: the same calls, other answers: %+v, %+v", got, again)
		}
	}
}

func allow(t *testing.T, m *meter.Meter, k api.Key, cost int) api.Reply {
	t.Helper()
	got, e := m.Allow(k, cost)
	if e != api.OK {
		t.Fatalf("P5: Allow(%v, %d): %d", k, cost, e)
	}
	return got
}

func TestDrawnSmall(t *testing.T) {
	r := rand.New(rand.NewSource(11))
	for range 400 {
		run(t, r, false)
	}
}

func TestDrawnGreat(t *testing.T) {
	r := rand.New(rand.NewSource(12))
	for range 400 {
		run(t, r, true)
	}
}
