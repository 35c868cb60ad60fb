// Package plan: a config that was found good, made ready for asking.
package plan

import (
	"meter/api"
	"meter/place"
	"meter/rate"
)

// Plan tells which rate holds where. It does not change, so shards may share it without a lock.
type Plan struct {
	rates [api.Levels]rate.Rate
	own   map[place.Place]rate.Rate
}

// Of makes a plan of a config; nil and ErrArg, if it is none. Nothing of the config's list is kept.
func Of(c api.Config) (*Plan, api.Errno) {
	if !sizesHold(c) || len(c.Overrides) > api.MaxOver {
		return nil, api.ErrArg
	}
	p := &Plan{own: make(map[place.Place]rate.Rate, len(c.Overrides))}
	for level, q := range c.Quotas {
		r, ok := rate.Of(q)
		if !ok {
			return nil, api.ErrArg
		}
		p.rates[level] = r
	}
	for _, o := range c.Overrides {
		if !p.override(o) {
			return nil, api.ErrArg
		}
	}
	return p, api.OK
}

// RateAt tells the rate that holds at a place.
func (p *Plan) RateAt(w place.Place) rate.Rate {
	if r, found := p.own[w]; found {
		return r
	}
	return p.rates[w.Level]
}

// override takes up a rate of a place's own; false, if it is no override or the place has one already.
func (p *Plan) override(o api.Override) bool {
	if o.Level < place.Tenant || o.Level > place.Route {
		return false
	}
	w := place.At(o.Level, o.Key)
	if w.Key != o.Key {
		return false
	}
	if _, found := p.own[w]; found {
		return false
	}
	r, ok := rate.Of(o.Quota)
	if !ok {
		return false
	}
	p.own[w] = r
	return true
}

// sizesHold tells whether the plain numbers of a config keep within their bounds.
func sizesHold(c api.Config) bool {
	return c.Shards >= 1 && c.Shards <= api.MaxShard &&
		c.Slots >= api.MinSlots && c.Slots <= api.MaxSlots &&
		c.Every >= 1 && c.Every <= api.MaxSpan &&
		c.Delay >= 0 && c.Delay <= api.MaxSpan &&
		c.Queue >= 0 && c.Queue <= api.MaxQueue
}
