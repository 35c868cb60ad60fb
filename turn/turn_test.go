package turn

import (
	"math/rand"
	"testing"
)

func check(t *testing.T, l *List, tenant uint16, want uint64) {
	t.Helper()
	if got := l.Of(tenant); got != want {
		t.Errorf("P8: the turn of tenant %d is %d, want %d", tenant, got, want)
	}
}

func TestTurns(t *testing.T) {
	l := New()
	check(t, l, 0, 0)
	check(t, l, 65535, 0)
	l.Set(0, 10)
	l.Set(65535, 5)
	l.Set(7, 1<<64-1)
	check(t, l, 0, 10)
	check(t, l, 65535, 5)
	check(t, l, 7, 1<<64-1)
	check(t, l, 1, 0)
}

// A turn is kept until time reaches it, and not beyond.
func TestForget(t *testing.T) {
	l := New()
	l.Forget(1 << 63)
	l.Set(1, 10)
	l.Set(2, 10)
	l.Set(3, 5)
	l.Set(4, 1<<64-1)
	for _, s := range []struct {
		now  uint64
		want [4]uint64
	}{
		{0, [4]uint64{10, 10, 5, 1<<64 - 1}},
		{4, [4]uint64{10, 10, 5, 1<<64 - 1}},
		{5, [4]uint64{10, 10, 0, 1<<64 - 1}},
		{9, [4]uint64{10, 10, 0, 1<<64 - 1}},
		{10, [4]uint64{0, 0, 0, 1<<64 - 1}},
		{1<<63 - 1, [4]uint64{0, 0, 0, 1<<64 - 1}},
	} {
		l.Forget(s.now)
		for i, want := range s.want {
			check(t, l, uint16(i+1), want)
		}
	}
}

// When time reaches a turn that a later one has taken the place of, the later one stays.
func TestLaterTurnStays(t *testing.T) {
	l := New()
	l.Set(1, 10)
	l.Set(1, 20)
	l.Set(2, 15)
	l.Forget(10)
	check(t, l, 1, 20)
	check(t, l, 2, 15)
	l.Forget(19)
	check(t, l, 1, 20)
	check(t, l, 2, 0)
	l.Forget(20)
	check(t, l, 1, 0)
	l.Set(1, 30)
	l.Forget(29)
	check(t, l, 1, 30)
}

// Turns of all tenants come and go: only those that time has not reached are kept, whatever the order in which they were set.
func TestKeepsWhatIsToCome(t *testing.T) {
	r := rand.New(rand.NewSource(31))
	l := New()
	turns := map[uint16]uint64{}
	for now := range uint64(4000) {
		l.Forget(now)
		tenant := uint16(r.Intn(300) * 218)
		at := max(turns[tenant], now) + 1 + uint64(r.Intn(100))
		l.Set(tenant, at)
		turns[tenant] = at
		toCome := 0
		for k, at := range turns {
			if at > now {
				toCome++
				check(t, l, k, at)
			} else {
				check(t, l, k, 0)
			}
		}
		if len(l.at) != toCome {
			t.Fatalf("at %d: %d turns are kept, %d are to come", now, len(l.at), toCome)
		}
	}
	l.Forget(1<<64 - 1)
	if len(l.at) != 0 || len(l.order) != 0 {
		t.Errorf("at the end %d turns are kept, %d in order", len(l.at), len(l.order))
	}
}
