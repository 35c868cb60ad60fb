package rate

import (
	"math/big"
	"testing"

	"meter/api"
)

func TestOf(t *testing.T) {
	for _, c := range []struct {
		quota    api.Quota
		interval uint64
	}{
		{api.Quota{Count: 2, Period: 10, Burst: 10}, 5},
		{api.Quota{Count: 3, Period: 10, Burst: 20}, 4},
		{api.Quota{Count: 1, Period: 1}, 1},
		{api.Quota{Count: api.MaxCount, Period: 1}, 1},
		{api.Quota{Count: api.MaxCount, Period: api.MaxCount}, 1},
		{api.Quota{Count: api.MaxCount, Period: api.MaxCount + 1}, 2},
		{api.Quota{Count: 1, Period: api.MaxSpan}, api.MaxSpan},
		{api.Quota{Count: 2, Period: api.MaxSpan, Burst: api.MaxSpan / 2}, api.MaxSpan / 2},
		{api.Quota{Count: 2, Period: api.MaxSpan - 1, Burst: api.MaxSpan / 2}, api.MaxSpan / 2},
		{api.Quota{Count: 1, Period: 1, Burst: api.MaxSpan - 1}, 1},
		{api.Quota{Count: 3, Period: 4, Burst: api.MaxSpan - 2}, 2},
	} {
		r, ok := Of(c.quota)
		if !ok || r.interval != c.interval || r.burst != uint64(c.quota.Burst) {
			t.Errorf("Of(%+v) = %+v, %v, want the interval %d", c.quota, r, ok, c.interval)
		}
	}
}

func TestOfWrong(t *testing.T) {
	for _, q := range []api.Quota{
		{},
		{Count: 0, Period: 1},
		{Count: -1, Period: 1},
		{Count: -1 << 63, Period: 1},
		{Count: api.MaxCount + 1, Period: 1},
		{Count: 1<<63 - 1, Period: 1},
		{Count: 1, Period: 0},
		{Count: 1, Period: -1},
		{Count: 1, Period: -1 << 63},
		{Count: 1, Period: api.MaxSpan + 1},
		{Count: api.MaxCount, Period: 1<<63 - 1},
		{Count: 1, Period: 1, Burst: -1},
		{Count: 1, Period: 1, Burst: -1 << 63},
		{Count: 1, Period: 1, Burst: api.MaxSpan},
		{Count: 1, Period: 1, Burst: 1<<63 - 1},
		{Count: 3, Period: 4, Burst: api.MaxSpan - 1},
		{Count: 1, Period: api.MaxSpan, Burst: 1},
		{Count: 1, Period: api.MaxSpan, Burst: api.MaxSpan},
		{Count: 2, Period: api.MaxSpan, Burst: api.MaxSpan/2 + 1},
	} {
		if r, ok := Of(q); ok || r != (Rate{}) {
			t.Errorf("Of(%+v) = %+v, %v", q, r, ok)
		}
	}
}

func whole(n uint64) *big.Int { return new(big.Int).SetUint64(n) }

func sum(a, b *big.Int) *big.Int { return new(big.Int).Add(a, b) }

// unbounded is P5's sum: the mark that would be left, and by how much it is above what may be.
func unbounded(r Rate, mark, now uint64, cost int) (next, over *big.Int) {
	next = sum(whole(max(mark, now)), new(big.Int).Mul(big.NewInt(int64(cost)), whole(r.interval)))
	latest := sum(sum(whole(now), whole(r.burst)), whole(r.interval))
	return next, new(big.Int).Sub(next, latest)
}

// At all edges Ask answers as whole numbers without bounds do.
func TestAskNeverWraps(t *testing.T) {
	for _, r := range []Rate{
		{1, 0}, {1, 1}, {5, 10}, {1, api.MaxSpan - 1}, {2, api.MaxSpan - 2}, {api.MaxSpan, 0}, {api.MaxSpan - 1, 1},
		{api.MaxSpan / 2, api.MaxSpan / 2}, {api.MaxSpan / 1000, api.MaxSpan / 1000 * 999}, {api.MaxSpan / 999, api.MaxSpan / 1001},
	} {
		for _, now := range []uint64{0, 1, 5, api.MaxSpan, api.MaxTime - 1, api.MaxTime} {
			most := now + r.burst + r.interval
			for _, mark := range []uint64{0, now / 2, now, now + 1, now + r.interval, now + r.burst, most - 1, most} {
				for _, cost := range []int{1, 2, 3, 4, 999, api.MaxCost - 1, api.MaxCost} {
					checkAsk(t, r, min(mark, most), now, cost)
				}
			}
		}
	}
}

func checkAsk(t *testing.T, r Rate, mark, now uint64, cost int) {
	t.Helper()
	next, wait := r.Ask(mark, now, cost)
	wantNext, over := unbounded(r, mark, now, cost)
	_, overIdle := unbounded(r, 0, now, cost)
	switch {
	case overIdle.Sign() > 0:
		if next != 0 || wait != api.Never {
			t.Errorf("%+v.Ask(%d, %d, %d) = %d, %d, want 0, Never", r, mark, now, cost, next, wait)
		}
	case over.Sign() > 0:
		if whole(next).Cmp(wantNext) != 0 || whole(wait).Cmp(over) != 0 {
			t.Errorf("%+v.Ask(%d, %d, %d) = %d, %d, want %d, %d", r, mark, now, cost, next, wait, wantNext, over)
		}
	default:
		if whole(next).Cmp(wantNext) != 0 || wait != 0 {
			t.Errorf("%+v.Ask(%d, %d, %d) = %d, %d, want %d, 0", r, mark, now, cost, next, wait, wantNext)
		}
	}
}
