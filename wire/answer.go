package wire

import "meter/api"

// Refused answers a wrong command (P11).
const Refused = "\xff"

// Reply answers an allow.
func Reply(r api.Reply) string {
	return string(put([]byte{byte(r.Status), byte(r.Level)}, r.Retry, 8))
}

// Due answers a submit.
func Due(s api.Status, due uint64) string {
	return string(put([]byte{byte(s)}, due, 8))
}

// Items answers a poll. There are never more than api.MaxQueue items, so a byte holds how many.
func Items(items []api.Item) string {
	told := []byte{byte(Poll), byte(len(items))}
	for _, x := range items {
		told = put(told, uint64(x.Tenant), 2)
		told = put(told, uint64(x.Item), 4)
		told = put(told, x.Due, 8)
	}
	return string(told)
}

// Time answers an advance.
func Time(now uint64) string {
	return string(put([]byte{byte(Advance)}, now, 8))
}

// put writes a number of so many bytes behind what is there.
func put(told []byte, n uint64, size int) []byte {
	for i := size - 1; i >= 0; i-- {
		told = append(told, byte(n>>(8*i)))
	}
	return told
}
