package wire_test

import (
	"strings"
	"testing"

	"meter/api"
	"meter/wire"
)

func read(t *testing.T, text string, want wire.Command) {
	t.Helper()
	if got := wire.Read(text); got != want {
		t.Errorf("P10, P11: Read(%.20q) = %+v, want %+v", text, got, want)
	}
}

// Each byte of a command is another one, so that none stands in for another.
func TestRead(t *testing.T) {
	read(t, "\x01\x81\x02\x83\x04\x85\x06\x02\x88", wire.Command{Kind: wire.Allow, Key: api.Key{Tenant: 0x8102, User: 0x8304, Route: 0x8506}, Cost: 0x288})
	read(t, "\x02\x81\x02\x93\x04\x05\x86", wire.Command{Kind: wire.Submit, Tenant: 0x8102, Item: 0x93040586})
	read(t, "\x03\xc9", wire.Command{Kind: wire.Poll, Most: 0xc9})
	read(t, "\x04\x71\x82\x03\x84\x05\x86\x07\x88", wire.Command{Kind: wire.Advance, Span: 0x7182038405860788})
}

func TestReadBounds(t *testing.T) {
	zeros, ones := strings.Repeat("\x00", 8), strings.Repeat("\xff", 8)
	read(t, "\x01"+zeros[:6]+"\x00\x01", wire.Command{Kind: wire.Allow, Cost: 1})
	read(t, "\x01"+ones[:6]+"\x03\xe8", wire.Command{Kind: wire.Allow, Key: api.Key{Tenant: 65535, User: 65535, Route: 65535}, Cost: api.MaxCost})
	read(t, "\x02"+zeros[:6], wire.Command{Kind: wire.Submit})
	read(t, "\x02"+ones[:6], wire.Command{Kind: wire.Submit, Tenant: 65535, Item: 1<<32 - 1})
	read(t, "\x03\x00", wire.Command{Kind: wire.Poll})
	read(t, "\x03\xff", wire.Command{Kind: wire.Poll, Most: 255})
	read(t, "\x04"+zeros, wire.Command{Kind: wire.Advance})
	read(t, "\x04\x7f"+ones[:7], wire.Command{Kind: wire.Advance, Span: api.MaxTime})
	read(t, "\x04\x80"+zeros[:7], wire.Command{})
	read(t, "\x04"+ones, wire.Command{})
}

// Every first byte with every length near to the right ones. What comes behind the first byte would do for each kind.
func TestReadFirstBytesAndLengths(t *testing.T) {
	read(t, "", wire.Command{})
	sizes := map[int]wire.Kind{0x0109: wire.Allow, 0x0207: wire.Submit, 0x0302: wire.Poll, 0x0409: wire.Advance}
	for first := range 256 {
		for size := 1; size <= 20; size++ {
			text := string([]byte{byte(first)}) + strings.Repeat("\x01", size-1)
			if got := wire.Read(text); got.Kind != sizes[first<<8|size] {
				t.Errorf("P10, P11: Read(%q) is of the kind %d", text, got.Kind)
			}
		}
		// Lengths that a byte, or two of them, would take for the right ones.
		for _, size := range []int{256 + 2, 256 + 7, 256 + 9, 65536 + 2, 65536 + 7, 65536 + 9} {
			read(t, string([]byte{byte(first)})+strings.Repeat("\x01", size-1), wire.Command{})
		}
	}
}

func TestReadCosts(t *testing.T) {
	for cost := range 65536 {
		want := wire.Command{}
		if cost >= 1 && cost <= api.MaxCost {
			want = wire.Command{Kind: wire.Allow, Key: api.Key{Tenant: 1, User: 2, Route: 3}, Cost: cost}
		}
		read(t, "\x01\x00\x01\x00\x02\x00\x03"+string([]byte{byte(cost >> 8), byte(cost)}), want)
	}
}

// The bytes are bytes, also where they would be no text in UTF-8.
func TestReadIsNotOfRunes(t *testing.T) {
	read(t, "\x02\xc3\xa9\xe2\x82\xac\x00", wire.Command{Kind: wire.Submit, Tenant: 0xc3a9, Item: 0xe282ac00})
	read(t, "\x03é", wire.Command{})
	read(t, "\x03\xc3", wire.Command{Kind: wire.Poll, Most: 0xc3})
}

func tell(t *testing.T, got, want string) {
	t.Helper()
	if got != want {
		t.Errorf("P10: told %q, want %q", got, want)
	}
}

func TestReply(t *testing.T) {
	tell(t, wire.Reply(api.Reply{}), strings.Repeat("\x00", 10))
	tell(t, wire.Reply(api.Reply{Status: api.Full}), "\x02"+strings.Repeat("\x00", 9))
	tell(t, wire.Reply(api.Reply{Status: api.Denied, Level: 2, Retry: 0x8102830485068708}), "\x01\x02\x81\x02\x83\x04\x85\x06\x87\x08")
	tell(t, wire.Reply(api.Reply{Status: api.Denied, Retry: api.Never}), "\x01\x00"+strings.Repeat("\xff", 8))
}

func TestDue(t *testing.T) {
	tell(t, wire.Due(api.Accepted, 0x8102830485068708), "\x03\x81\x02\x83\x04\x85\x06\x87\x08")
	tell(t, wire.Due(api.TooLate, 0), "\x04"+strings.Repeat("\x00", 8))
	tell(t, wire.Due(api.Queued, 0), "\x05"+strings.Repeat("\x00", 8))
}

func TestItems(t *testing.T) {
	tell(t, wire.Items(nil), "\x03\x00")
	one := api.Item{Tenant: 0x8102, Item: 0x83048506, Due: 0x8192a3b4c5d6e7f8}
	tell(t, wire.Items([]api.Item{one, {Tenant: 1, Item: 2, Due: 3}}), "\x03\x02\x81\x02\x83\x04\x85\x06\x81\x92\xa3\xb4\xc5\xd6\xe7\xf8\x00\x01\x00\x00\x00\x02\x00\x00\x00\x00\x00\x00\x00\x03")
	tell(t, wire.Items(make([]api.Item, api.MaxQueue)), "\x03\x32"+strings.Repeat("\x00", 14*api.MaxQueue))
}

func TestTime(t *testing.T) {
	tell(t, wire.Time(0), "\x04"+strings.Repeat("\x00", 8))
	tell(t, wire.Time(0x7182038405860788), "\x04\x71\x82\x03\x84\x05\x86\x07\x88")
	tell(t, wire.Time(api.MaxTime), "\x04\x7f"+strings.Repeat("\xff", 7))
}
