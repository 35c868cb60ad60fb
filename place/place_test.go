package place

import (
	"testing"

	"meter/api"
)

// The levels are counted as api.Reply and api.Override count them.
func TestLevels(t *testing.T) {
	if Tenant != 0 || User != 1 || Route != 2 || Route+1 != api.Levels {
		t.Errorf("levels: %d, %d, %d", Tenant, User, Route)
	}
}

func TestAllKeepsWhatIsKnown(t *testing.T) {
	want := [api.Levels]Place{
		{Level: 0, Key: api.Key{Tenant: 7}},
		{Level: 1, Key: api.Key{Tenant: 7, User: 8}},
		{Level: 2, Key: api.Key{Tenant: 7, User: 8, Route: 9}},
	}
	if got := All(api.Key{Tenant: 7, User: 8, Route: 9}); got != want {
		t.Errorf("All = %v, want %v", got, want)
	}
}

// Also a key of zeros has three places: the level tells them apart.
func TestLevelsAreApart(t *testing.T) {
	all := All(api.Key{})
	if all[0] == all[1] || all[1] == all[2] || all[0] == all[2] {
		t.Errorf("All of the key of zeros = %v", all)
	}
}
