package meter_test

import (
	"encoding/binary"
	"math/rand"
	"slices"
	"strings"
	"sync"
	"testing"

	"meter/api"
	"meter/meter"
)

const refused = "\xff"

// text writes a first byte and numbers, each in as many bytes as its type has.
func text(first byte, numbers ...any) string {
	told := []byte{first}
	for _, n := range numbers {
		told, _ = binary.Append(told, binary.BigEndian, n)
	}
	return string(told)
}

func allowText(k api.Key, cost uint16) string {
	return text(1, k.Tenant, k.User, k.Route, cost)
}

func submitText(tenant uint16, item uint32) string { return text(2, tenant, item) }

func pollText(most uint8) string { return text(3, most) }

func advanceText(n uint64) string { return text(4, n) }

func replyText(r api.Reply) string { return text(byte(r.Status), uint8(r.Level), r.Retry) }

func dueText(s api.Status, due uint64) string { return text(byte(s), due) }

func itemsText(items ...api.Item) string {
	told := text(3, uint8(len(items)))
	for _, x := range items {
		told += text(byte(x.Tenant>>8), uint8(x.Tenant), x.Item, x.Due)
	}
	return told
}

func do(t *testing.T, m *meter.Meter, command, want string) {
	t.Helper()
	if got := m.Do(command); got != want {
		t.Errorf("P10, P11: Do(%.40q) = %q, want %q", command, got, want)
	}
}

func TestCommandExamples(t *testing.T) {
	m := fresh(t, small())
	do(t, m, "\x01\x00\x01\x00\x01\x00\x01\x00\x01", "\x00\x00\x00\x00\x00\x00\x00\x00\x00\x00")
	do(t, m, "\x01\x00\x01\x00\x01\x00\x01\x00\x01", "\x00\x00\x00\x00\x00\x00\x00\x00\x00\x00")
	do(t, m, "\x01\x00\x01\x00\x01\x00\x01\x00\x01", "\x01\x01\x00\x00\x00\x00\x00\x00\x00\x05")
	do(t, m, "", refused)
	do(t, m, "\x09", refused)
	do(t, m, "\x01", refused)
	do(t, m, "\x04\x00\x00\x00\x00\x00\x00\x00\x02", "\x04\x00\x00\x00\x00\x00\x00\x00\x02")
	do(t, m, "\x04\x00\x00\x00\x00\x00\x00\x00\x02", "\x04\x00\x00\x00\x00\x00\x00\x00\x04")
}

// Commands and calls are of one meter: what one has done, the other sees.
func TestCommandsAndCallsMixed(t *testing.T) {
	c := small()
	c.Slots = 7
	m := fresh(t, c)
	key := api.Key{Tenant: 0x0102, User: 0x0304, Route: 0x0506}
	do(t, m, allowText(key, 2), replyText(allowed))
	ask(t, m, key, 1, denied(1, 5))
	ask(t, m, api.Key{Tenant: 0x0102, User: 0x0403, Route: 0x0506}, 1, allowed)
	do(t, m, allowText(api.Key{Tenant: 0x0102, User: 9}, 1), replyText(denied(0, 5)))
	do(t, m, allowText(api.Key{Tenant: 0x0102, User: 9}, api.MaxCost), replyText(denied(0, api.Never)))
	do(t, m, allowText(api.Key{Tenant: 0x0201}, 1), replyText(full))
	do(t, m, advanceText(5), "\x04\x00\x00\x00\x00\x00\x00\x00\x05")
	advance(t, m, 0, 5)
	submit(t, m, 7, 100, api.Accepted, 5)
	do(t, m, submitText(7, 101), dueText(api.Accepted, 8))
	do(t, m, submitText(7, 102), dueText(api.TooLate, 0))
	do(t, m, submitText(8, 103), dueText(api.Queued, 0))
	do(t, m, pollText(9), itemsText(api.Item{Tenant: 7, Item: 100, Due: 5}))
	submit(t, m, 8, 103, api.Accepted, 5)
	advance(t, m, 3, 8)
	do(t, m, pollText(1), itemsText(api.Item{Tenant: 8, Item: 103, Due: 5}))
	poll(t, m, 9, api.Item{Tenant: 7, Item: 101, Due: 8})
	do(t, m, pollText(9), itemsText())
}

func TestPollCommands(t *testing.T) {
	m := fresh(t, spaced(1, 0, api.MaxQueue))
	var all []api.Item
	for i := range uint16(api.MaxQueue) {
		x := api.Item{Tenant: i << 10, Item: uint32(i) * 80000001}
		all = append(all, x)
		do(t, m, submitText(x.Tenant, x.Item), dueText(api.Accepted, 0))
	}
	do(t, m, pollText(0), itemsText())
	do(t, m, pollText(1), itemsText(all[:1]...))
	do(t, m, pollText(8), itemsText(all[1:9]...))
	do(t, m, pollText(255), itemsText(all[9:]...))
	do(t, m, pollText(255), itemsText())
}

// A queue that is full to its greatest size is told in one answer.
func TestPollCommandTellsAll(t *testing.T) {
	m := fresh(t, spaced(1, api.MaxQueue, api.MaxQueue))
	var all []api.Item
	for i := range uint64(api.MaxQueue) {
		all = append(all, api.Item{Tenant: 65535, Item: 1<<32 - 1, Due: i})
		do(t, m, submitText(65535, 1<<32-1), dueText(api.Accepted, i))
	}
	advance(t, m, 100, 100)
	do(t, m, pollText(255), itemsText(all...))
}

func TestAdvanceCommands(t *testing.T) {
	m := fresh(t, small())
	do(t, m, advanceText(0), text(4, uint64(0)))
	do(t, m, advanceText(1<<63), refused)
	do(t, m, advanceText(1<<64-1), refused)
	do(t, m, advanceText(0x0102030405060708), text(4, uint64(0x0102030405060708)))
	do(t, m, advanceText(1<<63), refused)
	advance(t, m, 0, 0x0102030405060708)
	do(t, m, advanceText(api.MaxTime), text(4, uint64(api.MaxTime)))
	do(t, m, advanceText(api.MaxTime), text(4, uint64(api.MaxTime)))
	do(t, m, advanceText(0), text(4, uint64(api.MaxTime)))
	do(t, m, advanceText(1<<63), refused)
	advance(t, m, 0, api.MaxTime)
}

// Beyond the end of time only an item's due time tells so: it takes all of its eight bytes.
func TestCommandsAtTheEndOfTime(t *testing.T) {
	m := fresh(t, spaced(api.MaxSpan, api.MaxSpan, 2))
	do(t, m, advanceText(api.MaxTime), text(4, uint64(api.MaxTime)))
	do(t, m, submitText(1, 1), dueText(api.Accepted, api.MaxTime))
	do(t, m, submitText(1, 2), dueText(api.Accepted, api.MaxTime+api.MaxSpan))
	do(t, m, pollText(255), itemsText(api.Item{Tenant: 1, Item: 1, Due: api.MaxTime}))
	do(t, m, pollText(255), itemsText())
}

// wrongTexts are such as P11 names, all of them near to commands that would change something.
func wrongTexts() []string {
	request := allowText(api.Key{Tenant: 1, User: 1, Route: 1}, 1)
	right := []string{request, submitText(1, 1), pollText(9), advanceText(3)}
	wrong := []string{request[:7] + "\x00\x00", request[:7] + "\x03\xe9", request[:7] + "\x04\x01", request[:7] + "\xff\xff"}
	wrong = append(wrong, advanceText(1<<63), advanceText(1<<63+3), advanceText(1<<64-1))
	for _, r := range right {
		for size := range len(r) {
			wrong = append(wrong, r[:size])
		}
		wrong = append(wrong, r+"\x00", r+"\x01", r+r, r+"\n", " "+r, "\x00"+r, r+strings.Repeat("\x00", 256), r+strings.Repeat("\x00", 65536))
		for first := range 256 {
			if first < 1 || first > 4 {
				wrong = append(wrong, string([]byte{byte(first)})+r[1:])
			}
		}
	}
	return wrong
}

func TestWrongCommandsChangeNothing(t *testing.T) {
	m, n := fresh(t, small()), fresh(t, small())
	key := api.Key{Tenant: 1, User: 1, Route: 1}
	for _, x := range []*meter.Meter{m, n} {
		ask(t, x, key, 1, allowed)
		submit(t, x, 1, 50, api.Accepted, 0)
	}
	for _, w := range wrongTexts() {
		do(t, m, w, refused)
		if m.Now() != 0 {
			t.Fatalf("P11: Do(%.40q): the time is %d", w, m.Now())
		}
	}
	for range 4 {
		for _, c := range []string{allowText(key, 1), submitText(1, 51), pollText(1), advanceText(2)} {
			do(t, m, c, n.Do(c))
		}
	}
}

// answer is what a command is answered by, if its call is made instead.
func answer(m *meter.Meter, command []any) string {
	switch command[0] {
	case 1:
		r, e := m.Allow(command[1].(api.Key), int(command[2].(uint16)))
		if e != api.OK {
			return refused
		}
		return replyText(r)
	case 2:
		return dueText(m.Submit(command[1].(uint16), command[2].(uint32)))
	case 3:
		return itemsText(m.Poll(int(command[1].(uint8)))...)
	}
	n := command[1].(uint64)
	if n > api.MaxTime || m.Advance(int(n)) != api.OK {
		return refused
	}
	return text(4, m.Now())
}

// drawCommand draws a command, in its parts and as a text; some are to be refused.
func drawCommand(r *rand.Rand, great bool) ([]any, string) {
	switch r.Intn(6) {
	case 0:
		tenant, item := uint16(r.Intn(4)), r.Uint32()
		return []any{2, tenant, item}, submitText(tenant, item)
	case 1:
		most := uint8(r.Intn(4))
		return []any{3, most}, pollText(most)
	case 2:
		n := uint64(drawStep(r, great))
		if r.Intn(8) == 0 {
			n = r.Uint64() | 1<<63
		}
		return []any{4, n}, advanceText(n)
	}
	k, cost := drawKey(r), uint16(1+r.Intn(3))
	if r.Intn(8) == 0 {
		cost = uint16(r.Intn(2000))
	}
	return []any{1, k, cost}, allowText(k, cost)
}

// Commands answer as the calls do, and leave the meter as the calls do.
func TestDrawnCommands(t *testing.T) {
	r := rand.New(rand.NewSource(31))
	for i := range 400 {
		great := i%2 == 0
		c := drawConfig(r, great)
		s := drawSpaced(r, great)
		c.Every, c.Delay, c.Queue = s.Every, s.Delay, s.Queue
		m, n := fresh(t, c), fresh(t, c)
		for range 100 {
			parts, command := drawCommand(r, great)
			do(t, m, command, answer(n, parts))
			if m.Now() != n.Now() || t.Failed() {
				t.Fatalf("P10, P11: with %+v: Do(%q), the time is %d, want %d", c, command, m.Now(), n.Now())
			}
		}
	}
}

// An advance answers the time just behind it, whoever else lets time go on.
func TestAdvanceCommandsSideBySide(t *testing.T) {
	m := fresh(t, small())
	const workers, each = 8, 500
	var times [workers][]string
	var group sync.WaitGroup
	for k := range workers {
		group.Go(func() {
			for range each {
				times[k] = append(times[k], m.Do(advanceText(1)))
			}
		})
	}
	group.Wait()
	all := slices.Concat(times[:]...)
	slices.Sort(all)
	for i, got := range all {
		if want := text(4, uint64(i+1)); got != want {
			t.Fatalf("P10: the advance that is number %d was answered by %q, want %q", i+1, got, want)
		}
	}
}

// Whatever text comes, Do ends, and answers by 255 or in the form of P10.
func FuzzDo(f *testing.F) {
	for _, w := range wrongTexts()[:40] {
		f.Add(w)
	}
	f.Add(allowText(api.Key{Tenant: 1, User: 1, Route: 1}, 1))
	f.Add(submitText(1, 1))
	f.Add(pollText(9))
	f.Add(advanceText(3))
	f.Fuzz(func(t *testing.T, command string) {
		m := fresh(t, small())
		got := m.Do(command)
		if got == refused {
			do(t, m, advanceText(0), text(4, uint64(0)))
			return
		}
		sizes := map[int][2]int{1: {9, 10}, 2: {7, 9}, 3: {2, 2}, 4: {9, 9}}[int(command[0])]
		if sizes != [2]int{len(command), len(got)} {
			t.Errorf("P10, P11: Do(%q) = %q", command, got)
		}
	})
}
