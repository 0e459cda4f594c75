package term

import "lethe/api"

const (
	more    = 1 << 7 // the bit of a byte behind which another one follows
	tenth   = 9      // the place of the last byte that a word of 64 bits can need
	lastBit = 1      // all that nine times seven bits leave for that byte
)

// PutNum writes a number in sevens; GetNum reads one: its value, how many bytes it has.
func PutNum(n uint64) string { return string(appendNum(nil, n)) }

func appendNum(b []byte, n uint64) []byte {
	for n >= more {
		b = append(b, byte(n)|more)
		n >>= 7
	}
	return append(b, byte(n))
}

func GetNum(s string) (uint64, int, api.Errno) {
	var n uint64
	for i := range len(s) {
		b := s[i]
		if i == tenth && b > lastBit {
			return 0, 0, api.ErrForm
		}
		n |= uint64(b&^more) << (7 * i)
		if b >= more {
			continue
		}
		if b == 0 && i > 0 {
			return 0, 0, api.ErrForm
		}
		return n, i + 1, api.OK
	}
	return 0, 0, api.ErrShort
}
