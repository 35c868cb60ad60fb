// Package rate: what one quota lets through, in whole numbers that never wrap.
package rate

import "meter/api"

// Rate is a quota, made ready for asking. It is made by Of.
type Rate struct {
	interval, burst uint64
}

// Of makes a rate of a quota; false, if it is none.
func Of(q api.Quota) (Rate, bool) {
	if q.Count < 1 || q.Count > api.MaxCount || q.Period < 1 || q.Period > api.MaxSpan || q.Burst < 0 {
		return Rate{}, false
	}
	interval := (q.Period-1)/q.Count + 1
	// The sum of the two could wrap, the difference can't.
	if q.Burst > api.MaxSpan-interval {
		return Rate{}, false
	}
	return Rate{interval: uint64(interval), burst: uint64(q.Burst)}, true
}

// Ask tells which mark a request would leave, and how long it has to wait to be let through: 0, if it is let through now; api.Never, if no waiting helps (the mark is 0 then).
// The cost is 1 to api.MaxCost, the time at most api.MaxTime, the mark 0 or one that this rate let through at that time or earlier.
func (r Rate) Ask(mark, now uint64, cost int) (next, wait uint64) {
	// cost * interval could wrap, so the burst is divided instead.
	if uint64(cost-1) > r.burst/r.interval {
		return 0, api.Never
	}
	// From here on cost * interval is at most burst + interval, so at most MaxSpan. A mark that was let through is at most
	// MaxTime + MaxSpan, and MaxTime + 2 * MaxSpan is just what a uint64 holds.
	next = max(mark, now) + uint64(cost)*r.interval
	latest := now + r.burst + r.interval
	if next <= latest {
		return next, 0
	}
	return next, next - latest
}
