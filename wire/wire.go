// Package wire: commands and their answers as bytes, numbers with their high bytes first.
package wire

import "meter/api"

// Kind is what a command is for. It is the command's first byte.
type Kind int

const (
	Wrong Kind = iota // nothing is done
	Allow
	Submit
	Poll
	Advance
)

// Command is what a text says. What does not belong to its kind is 0.
type Command struct {
	Kind   Kind
	Key    api.Key // of an allow
	Cost   int     // of an allow: 1 to api.MaxCost
	Tenant uint16  // of a submit
	Item   uint32  // of a submit
	Most   int     // of a poll
	Span   uint64  // of an advance: 0 to api.MaxTime
}

// Read tells what a text says. The answer's kind is Wrong at every text that P11 names, so that all others may be done as they are.
func Read(text string) Command {
	if len(text) == 0 {
		return Command{}
	}
	kind, rest := Kind(text[0]), text[1:]
	switch {
	case kind == Allow && len(rest) == 8:
		return readAllow(rest)
	case kind == Submit && len(rest) == 6:
		return Command{Kind: Submit, Tenant: short(rest[:2]), Item: uint32(number(rest[2:]))}
	case kind == Poll && len(rest) == 1:
		return Command{Kind: Poll, Most: int(rest[0])}
	case kind == Advance && len(rest) == 8:
		return readAdvance(rest)
	}
	return Command{}
}

func readAllow(rest string) Command {
	key := api.Key{Tenant: short(rest[:2]), User: short(rest[2:4]), Route: short(rest[4:6])}
	cost := int(short(rest[6:]))
	if cost < 1 || cost > api.MaxCost {
		return Command{}
	}
	return Command{Kind: Allow, Key: key, Cost: cost}
}

func readAdvance(rest string) Command {
	span := number(rest)
	if span > api.MaxTime {
		return Command{}
	}
	return Command{Kind: Advance, Span: span}
}

// short reads a number of two bytes.
func short(text string) uint16 { return uint16(number(text)) }

// number reads a number of eight bytes at most.
func number(text string) uint64 {
	n := uint64(0)
	for i := range len(text) {
		n = n<<8 | uint64(text[i])
	}
	return n
}
