// Package place: where a request counts: at a level, under as much of its key as is known there.
package place

import "meter/api"

// The levels, from the widest to the narrowest.
const (
	Tenant = iota
	User
	Route
)

// Place is a key as it is known at a level.
type Place struct {
	Level int
	Key   api.Key
}

// At tells the place of a key at a level. What is not known there is 0, so that keys that are one at the level have one place.
func At(level int, k api.Key) Place {
	switch level {
	case Tenant:
		k.User, k.Route = 0, 0
	case User:
		k.Route = 0
	}
	return Place{Level: level, Key: k}
}

// All tells the places of a key, one for each level.
func All(k api.Key) [api.Levels]Place {
	return [api.Levels]Place{At(Tenant, k), At(User, k), At(Route, k)}
}
