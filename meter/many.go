package meter

import (
	"sync"

	"meter/wire"
)

// step is one of many commands, and the time at which it is done (of an advance: the time behind it).
type step struct {
	command wire.Command
	now     uint64
}

// stepsFrom reads commands, the first of which is done at the given time. Only advances move time, and they hang on nothing else: so all times are known ahead, and no shard has to wait for another one to get there.
func stepsFrom(now uint64, commands []string) []step {
	steps := make([]step, len(commands))
	for i, text := range commands {
		c := wire.Read(text)
		if c.Kind == wire.Advance {
			now = later(now, c.Span)
		}
		steps[i] = step{command: c, now: now}
	}
	return steps
}

// doAll does the steps, each shard's own ones side by side with those of the others, and tells their answers. The clock is held for writing meanwhile.
func (m *Meter) doAll(steps []step) []string {
	answers := make([]string, len(steps))
	var group sync.WaitGroup
	for worker := range m.shards {
		group.Go(func() { m.doOwn(worker, steps, answers) })
	}
	// What is no shard's own waits for none of them either.
	m.doOwn(len(m.shards), steps, answers)
	group.Wait()
	return answers
}

// doOwn does those of the steps that are a worker's own, in their order. It writes their answers and no others, so that workers need no lock between them.
func (m *Meter) doOwn(worker int, steps []step, answers []string) {
	for i, s := range steps {
		if m.workerOf(s.command) == worker {
			answers[i] = m.answer(s.command, s.now)
		}
	}
}

// workerOf tells whose a command is: a request is its shard's, all else is one more worker's, as items are in one queue.
func (m *Meter) workerOf(c wire.Command) int {
	if c.Kind == wire.Allow {
		return m.shardOf(c.Key.Tenant)
	}
	return len(m.shards)
}
