package meter_test

import (
	"math/rand"
	"runtime"
	"slices"
	"strings"
	"sync"
	"testing"
	"time"

	"meter/api"
	"meter/meter"
)

func many(t *testing.T, m *meter.Meter, commands, want []string) {
	t.Helper()
	got, e := m.Many(commands)
	if !slices.Equal(got, want) || (got == nil) != (len(commands) == 0) || e != api.OK {
		t.Errorf("P12: Many(%.40q) = %q, %d, want %q", commands, got, e, want)
	}
}

// oneByOne is what commands are answered by, if each is done by itself.
func oneByOne(m *meter.Meter, commands []string) []string {
	var answers []string
	for _, c := range commands {
		answers = append(answers, m.Do(c))
	}
	return answers
}

// sharded is the config of the document's examples, with more shards.
func sharded(shards int) api.Config {
	c := small()
	c.Shards = shards
	return c
}

// The document's examples of requests, all at once.
func TestManyExamples(t *testing.T) {
	one := allowText(api.Key{Tenant: 1, User: 1, Route: 1}, 1)
	two := allowText(api.Key{Tenant: 2, User: 1, Route: 1}, 1)
	commands := []string{
		one, one, one,
		allowText(api.Key{Tenant: 1, User: 2, Route: 1}, 1),
		allowText(api.Key{Tenant: 1, User: 3, Route: 1}, 1),
		two, advanceText(4), two, advanceText(1), two,
		submitText(7, 100), submitText(7, 101), submitText(7, 102), submitText(8, 103), pollText(9),
		submitText(8, 103), advanceText(3), pollText(9), "", "\x09", "\x01",
	}
	many(t, fresh(t, small()), commands, []string{
		replyText(allowed), replyText(allowed), replyText(denied(1, 5)),
		replyText(allowed),
		replyText(full),
		replyText(full), text(4, uint64(4)), replyText(full), text(4, uint64(5)), replyText(allowed),
		dueText(api.Accepted, 5), dueText(api.Accepted, 8), dueText(api.TooLate, 0), dueText(api.Queued, 0),
		itemsText(api.Item{Tenant: 7, Item: 100, Due: 5}),
		dueText(api.Accepted, 5), text(4, uint64(8)),
		itemsText(api.Item{Tenant: 8, Item: 103, Due: 5}, api.Item{Tenant: 7, Item: 101, Due: 8}),
		refused, refused, refused,
	})
}

// Each shard has its own keys and its own room, and each of its requests is decided at the time at which it stands in the list.
func TestManyInShards(t *testing.T) {
	for shards := 1; shards <= api.MaxShard; shards++ {
		m := fresh(t, sharded(shards))
		var commands, want []string
		// A shard has room for two tenants of its own; those behind them get theirs when the first ones sleep.
		for tenant := range uint16(3 * shards) {
			commands = append(commands, allowText(api.Key{Tenant: tenant}, 1))
			want = append(want, replyText(allowed))
			if int(tenant) >= 2*shards {
				want[tenant] = replyText(full)
			}
		}
		commands = append(commands, advanceText(4))
		want = append(want, text(4, uint64(4)))
		for tenant := range uint16(3 * shards) {
			commands = append(commands, allowText(api.Key{Tenant: tenant}, 2))
			want = append(want, replyText(denied(1, 1)))
			if int(tenant) >= 2*shards {
				want[len(want)-1] = replyText(full)
			}
		}
		commands = append(commands, advanceText(1), allowText(api.Key{Tenant: 65535}, 2))
		want = append(want, text(4, uint64(5)), replyText(allowed))
		many(t, m, commands, want)
		ask(t, m, api.Key{Tenant: 65535}, 1, denied(1, 5))
	}
}

func TestManyOfNothing(t *testing.T) {
	m := fresh(t, small())
	for _, commands := range [][]string{nil, {}, make([]string, 0, 5)} {
		many(t, m, commands, nil)
	}
	advance(t, m, 0, 0)
}

func TestManyOfOne(t *testing.T) {
	m := fresh(t, small())
	many(t, m, []string{allowText(api.Key{Tenant: 1}, 2)}, []string{replyText(allowed)})
	many(t, m, []string{allowText(api.Key{Tenant: 1}, 1)}, []string{replyText(denied(1, 5))})
	many(t, m, []string{submitText(1, 2)}, []string{dueText(api.Accepted, 0)})
	many(t, m, []string{""}, []string{refused})
	many(t, m, []string{advanceText(2)}, []string{text(4, uint64(2))})
	many(t, m, []string{pollText(3)}, []string{itemsText(api.Item{Tenant: 1, Item: 2})})
	advance(t, m, 0, 2)
}

// As many as may be are done, and of one more none is.
func TestManyBounds(t *testing.T) {
	m, n := fresh(t, sharded(3)), fresh(t, sharded(3))
	r := rand.New(rand.NewSource(41))
	for _, size := range []int{api.MaxMany + 1, api.MaxMany + 2, 2 * api.MaxMany, 256, 1000, 65536} {
		commands := []string{advanceText(1), allowText(api.Key{Tenant: 1, User: 1, Route: 1}, 1), submitText(7, 1), pollText(1), ""}
		commands = slices.Repeat(commands, size)[:size]
		if got, e := m.Many(commands); got != nil || e != api.ErrArg || m.Now() != n.Now() {
			t.Errorf("P12: Many of %d commands: %d answers, %d, then the time is %d, was %d", size, len(got), e, m.Now(), n.Now())
		}
		commands = drawCommands(r, api.MaxMany, false)
		many(t, m, commands, oneByOne(n, commands))
	}
	if _, e := m.Many(make([]string, api.MaxMany+1)); e != api.ErrArg {
		t.Errorf("P12: Many of %d wrong texts: %d", api.MaxMany+1, e)
	}
	many(t, m, make([]string, api.MaxMany), slices.Repeat([]string{refused}, api.MaxMany))
}

// The time of each command is that of its place, up to the end of time, and the last one stays.
func TestManyTimes(t *testing.T) {
	const late = api.MaxTime - 10
	m := fresh(t, sharded(2))
	even, odd := allowText(api.Key{Tenant: 4}, 2), allowText(api.Key{Tenant: 7}, 2)
	many(t, m,
		[]string{even, advanceText(4), even, odd, advanceText(0), advanceText(2), even, odd},
		[]string{replyText(allowed), text(4, uint64(4)), replyText(denied(0, 6)), replyText(allowed), text(4, uint64(4)), text(4, uint64(6)), replyText(denied(1, 4)), replyText(denied(0, 8))})
	many(t, m,
		[]string{advanceText(late - 6), odd, advanceText(1 << 63), even, advanceText(9), odd, advanceText(9), odd, advanceText(api.MaxTime), even},
		[]string{text(4, uint64(late)), replyText(allowed), refused, replyText(allowed), text(4, uint64(late+9)), replyText(denied(1, 1)), text(4, uint64(api.MaxTime)), replyText(allowed), text(4, uint64(api.MaxTime)), replyText(allowed)})
	advance(t, m, 0, api.MaxTime)
	many(t, m, []string{"", even, advanceText(1), submitText(1, 1)}, []string{refused, replyText(denied(0, 10)), text(4, uint64(api.MaxTime)), dueText(api.Accepted, api.MaxTime)})
	advance(t, m, 0, api.MaxTime)
}

// Items come in the order of the list, whatever their tenants' shards.
func TestManyItems(t *testing.T) {
	c := spaced(10, 20, 4)
	c.Shards = api.MaxShard
	m := fresh(t, c)
	many(t, m,
		[]string{submitText(3, 1), submitText(2, 2), submitText(3, 3), submitText(1, 4), submitText(0, 5), pollText(2), submitText(0, 6), advanceText(10), submitText(5, 7), pollText(255)},
		[]string{dueText(api.Accepted, 0), dueText(api.Accepted, 0), dueText(api.Accepted, 10), dueText(api.Accepted, 0), dueText(api.Queued, 0),
			itemsText(api.Item{Tenant: 3, Item: 1}, api.Item{Tenant: 2, Item: 2}), dueText(api.Accepted, 0), text(4, uint64(10)), dueText(api.Accepted, 10),
			itemsText(api.Item{Tenant: 1, Item: 4}, api.Item{Tenant: 0, Item: 6}, api.Item{Tenant: 3, Item: 3, Due: 10}, api.Item{Tenant: 5, Item: 7, Due: 10})})
	poll(t, m, 9)
	submit(t, m, 2, 8, api.Accepted, 10)
	submit(t, m, 3, 9, api.Accepted, 20)
}

// Wrong texts are answered in their places, and those around them as if they were not there.
func TestManyWrongTexts(t *testing.T) {
	m, n := fresh(t, sharded(2)), fresh(t, sharded(2))
	right := []string{allowText(api.Key{Tenant: 1}, 1), submitText(1, 1), advanceText(1), allowText(api.Key{Tenant: 2}, 1), pollText(1)}
	for part := range slices.Chunk(wrongTexts(), api.MaxMany-len(right)) {
		var commands, want []string
		for i, w := range part {
			if i < len(right) {
				commands, want = append(commands, right[i]), append(want, n.Do(right[i]))
			}
			commands, want = append(commands, w), append(want, refused)
		}
		many(t, m, commands, want)
		if m.Now() != n.Now() {
			t.Fatalf("P11, P12: Many(%.40q): the time is %d, want %d", commands, m.Now(), n.Now())
		}
	}
}

// drawCommands draws a list of so many commands, wrong texts among them.
func drawCommands(r *rand.Rand, size int, great bool) []string {
	wrong := wrongTexts()
	commands := make([]string, size)
	for i := range commands {
		_, commands[i] = drawCommand(r, great)
		if r.Intn(10) == 0 {
			commands[i] = wrong[r.Intn(len(wrong))]
		}
	}
	return commands
}

// runMany drives two meters with the same commands, one with all at once, the other one by one, and now and then both by calls.
func runMany(t *testing.T, r *rand.Rand, great bool) {
	c, s := drawConfig(r, great), drawSpaced(r, great)
	c.Every, c.Delay, c.Queue = s.Every, s.Delay, s.Queue
	m, n := fresh(t, c), fresh(t, c)
	for range 6 {
		commands := drawCommands(r, r.Intn(api.MaxMany+1), great)
		many(t, m, commands, oneByOne(n, commands))
		parts, _ := drawCommand(r, great)
		if got, want := answer(m, parts), answer(n, parts); got != want {
			t.Errorf("P12: behind Many %v is answered by %q, want %q", parts, got, want)
		}
		if m.Now() != n.Now() || t.Failed() {
			t.Fatalf("P12: with %+v: the time is %d, want %d", c, m.Now(), n.Now())
		}
	}
}

func TestManyDrawn(t *testing.T) {
	r := rand.New(rand.NewSource(42))
	for i := range 300 {
		runMany(t, r, i%2 == 0)
	}
}

// The list that is handed in stays as it is, spare room and all, and what is done to it or to an answer later is not seen.
func TestManyMemory(t *testing.T) {
	m, n := fresh(t, sharded(2)), fresh(t, sharded(2))
	r := rand.New(rand.NewSource(43))
	for range 20 {
		room := drawCommands(r, api.MaxMany, false)
		kept := slices.Clone(room)
		got, e := m.Many(room[:40])
		want := oneByOne(n, kept[:40])
		if !slices.Equal(room, kept) {
			t.Fatalf("P2: Many changed its list: %q, was %q", room, kept)
		}
		clear(room)
		again, _ := m.Many(kept[40:])
		if !slices.Equal(got, want) || e != api.OK {
			t.Fatalf("P2, P12: Many(%q) = %q, %d, want %q", kept[:40], got, e, want)
		}
		told := slices.Clone(again)
		clear(got[:cap(got)])
		if !slices.Equal(again, told) || !slices.Equal(again, oneByOne(n, kept[40:])) {
			t.Fatalf("P2, P12: Many(%q) = %q, then %q", kept[40:], told, again)
		}
	}
}

// Nobody else's call comes in between the commands of a list.
func TestManySideBySide(t *testing.T) {
	m := fresh(t, sharded(api.MaxShard))
	const workers, each, steps = 8, 100, 16
	commands := slices.Repeat([]string{advanceText(1), allowText(api.Key{Tenant: 1}, 1), allowText(api.Key{Tenant: 2}, 1), submitText(1, 1), pollText(1)}, steps)[:api.MaxMany]
	var starts [workers][]uint64
	var group sync.WaitGroup
	for k := range workers {
		group.Go(func() {
			for range each {
				m.Do(advanceText(1))
				got, _ := m.Many(commands)
				starts[k] = append(starts[k], firstOfRow(t, got))
				m.Advance(1)
				m.Allow(api.Key{Tenant: uint16(k)}, 1)
				m.Submit(uint16(k), 1)
				m.Poll(1)
			}
		})
	}
	group.Wait()
	all := slices.Concat(starts[:]...)
	slices.Sort(all)
	if len(slices.Compact(all)) != workers*each {
		t.Errorf("P12: two lists were done at one time")
	}
	advance(t, m, 0, workers*each*(2+13))
}

// firstOfRow is the first time that answers tell; they must tell times that follow on each other.
func firstOfRow(t *testing.T, answers []string) uint64 {
	var first uint64
	for i := 0; i < len(answers); i += 5 {
		now := uint64(0)
		for _, b := range []byte(answers[i][1:]) {
			now = now<<8 | uint64(b)
		}
		if i == 0 {
			first = now
		}
		if now != first+uint64(i/5) {
			t.Errorf("P12: the time %d is told behind %d advances from %d on", now, i/5, first)
		}
	}
	return first
}

// Whoever worked for a call has ended: none is left behind.
func TestManyLeavesNoGoroutine(t *testing.T) {
	m := fresh(t, sharded(api.MaxShard))
	r := rand.New(rand.NewSource(44))
	base := runtime.NumGoroutine()
	for range 200 {
		m.Many(drawCommands(r, api.MaxMany, false))
	}
	// One that has told that it is done may take a moment to be gone.
	for range 200 {
		if runtime.NumGoroutine() <= base {
			return
		}
		time.Sleep(10 * time.Millisecond)
	}
	t.Errorf("Ways: %d goroutines, %d at first", runtime.NumGoroutine(), base)
}

// Whatever texts come, Many answers as Do does.
func FuzzMany(f *testing.F) {
	one := allowText(api.Key{Tenant: 1, User: 1, Route: 1}, 1)
	f.Add(strings.Join([]string{one, one, advanceText(5), one, submitText(1, 1), pollText(9)}, ","), uint8(1))
	f.Add(strings.Join(wrongTexts()[:60], ","), uint8(2))
	f.Add(strings.Repeat(",", api.MaxMany), uint8(3))
	f.Fuzz(func(t *testing.T, joined string, shards uint8) {
		c := sharded(1 + int(shards)%api.MaxShard)
		m, n := fresh(t, c), fresh(t, c)
		commands := strings.Split(joined, ",")
		if len(commands) > api.MaxMany {
			if got, e := m.Many(commands); got != nil || e != api.ErrArg {
				t.Errorf("P12: Many of %d commands = %q, %d", len(commands), got, e)
			}
			return
		}
		many(t, m, commands, oneByOne(n, commands))
		if m.Now() != n.Now() {
			t.Errorf("P12: Many(%q): the time is %d, want %d", commands, m.Now(), n.Now())
		}
	})
}
