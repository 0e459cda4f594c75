package term

import (
	"encoding/binary"
	"math"
	"math/bits"
	"math/rand"
	"strings"
	"testing"

	"lethe/api"
)

// edges are numbers about every power of two, and others.
func edges() []uint64 {
	l := []uint64{0, 5, 300, 1 << 40, math.MaxUint64}
	for k := range 64 {
		for _, n := range []uint64{1<<k - 1, 1 << k, 1<<k + 1} {
			l = append(l, n)
		}
	}
	r := rand.New(rand.NewSource(1))
	for range 500 {
		l = append(l, r.Uint64()>>r.Intn(64))
	}
	return l
}

// P2.1: seven bits a byte, the lowest first, as few bytes as can be.
func TestPutNum(t *testing.T) {
	for _, x := range []struct {
		n    uint64
		want string
	}{
		{0, "\x00"},
		{1, "\x01"},
		{127, "\x7f"},
		{128, "\x80\x01"},
		{129, "\x81\x01"},
		{300, "\xac\x02"},
		{1<<14 - 1, "\xff\x7f"},
		{1 << 14, "\x80\x80\x01"},
		{1 << 40, "\x80\x80\x80\x80\x80\x20"},
		{1<<63 - 1, "\xff\xff\xff\xff\xff\xff\xff\xff\x7f"},
		{1 << 63, "\x80\x80\x80\x80\x80\x80\x80\x80\x80\x01"},
		{math.MaxUint64, "\xff\xff\xff\xff\xff\xff\xff\xff\xff\x01"},
	} {
		if got := PutNum(x.n); got != x.want {
			t.Errorf("%d: % x, want % x", x.n, got, x.want)
		}
	}
	for _, n := range edges() {
		got := PutNum(n)
		if want := string(binary.AppendUvarint(nil, n)); got != want {
			t.Errorf("%d: % x, want % x", n, got, want)
		}
		if size := max(1, (bits.Len64(n)+6)/7); len(got) != size {
			t.Errorf("%d: %d bytes, want %d", n, len(got), size)
		}
	}
}

// P2.1: what was put is got again, whatever stands behind; every piece of it ends too early.
func TestGetNumOfWhatWasPut(t *testing.T) {
	for _, n := range edges() {
		s := PutNum(n)
		for _, behind := range []string{"", "\x00", "\xff", "\x80\x80", s, strings.Repeat("\xff", 20)} {
			if got, size, e := GetNum(s + behind); got != n || size != len(s) || e != api.OK {
				t.Errorf("%d and % x: %d, %d, %d", n, behind, got, size, e)
			}
		}
		for i := range len(s) {
			if got, size, e := GetNum(s[:i]); got != 0 || size != 0 || e != api.ErrShort {
				t.Errorf("%d bytes of %d: %d, %d, %d", i, n, got, size, e)
			}
		}
	}
}

// P2.1: bytes that are no number in sevens; what is looked at first is told (R3), and nothing beside it (R2).
func TestGetNumRefuses(t *testing.T) {
	high := func(n int) string { return strings.Repeat("\x80", n) }
	full := func(n int) string { return strings.Repeat("\xff", n) }
	for _, x := range []struct {
		name, s string
		want    api.Errno
	}{
		{"nothing", "", api.ErrShort},
		{"one that goes on", "\x80", api.ErrShort},
		{"nine that go on", high(9), api.ErrShort},
		{"nine full ones", full(9), api.ErrShort},
		{"0 in two bytes", "\x80\x00", api.ErrForm},
		{"1 in two bytes", "\x81\x00", api.ErrForm},
		{"127 in two bytes, more behind", "\xff\x00\x05", api.ErrForm},
		{"0 in three bytes", "\x80\x80\x00", api.ErrForm},
		{"0 in nine bytes", high(8) + "\x00", api.ErrForm},
		{"0 in ten bytes", high(9) + "\x00", api.ErrForm},
		{"a tenth byte 0 behind full ones", full(9) + "\x00", api.ErrForm},
		{"a tenth byte 2", high(9) + "\x02", api.ErrForm},
		{"a tenth byte 127", high(9) + "\x7f", api.ErrForm},
		{"a tenth byte that goes on", high(9) + "\x80", api.ErrForm},
		{"a tenth byte 1 that goes on", high(9) + "\x81\x00", api.ErrForm},
		{"ten full ones", full(10), api.ErrForm},
		{"eleven that go on", high(11), api.ErrForm},
		{"eleven bytes", high(10) + "\x01", api.ErrForm},
	} {
		if n, size, e := GetNum(x.s); n != 0 || size != 0 || e != x.want {
			t.Errorf("%s: %d, %d, %d, want %d", x.name, n, size, e, x.want)
		}
	}
}

// P2.1: of all short bytes, just those that PutNum writes are read.
func TestGetNumOfAllShortBytes(t *testing.T) {
	for a := range 256 {
		for b := range 256 {
			s := bytesOf(byte(a), byte(b))
			n, size, e := GetNum(s)
			switch {
			case a < 128:
				if n != uint64(a) || size != 1 || e != api.OK {
					t.Fatalf("% x: %d, %d, %d", s, n, size, e)
				}
			case b >= 128:
				if n != 0 || size != 0 || e != api.ErrShort {
					t.Fatalf("% x: %d, %d, %d", s, n, size, e)
				}
			case b == 0:
				if n != 0 || size != 0 || e != api.ErrForm {
					t.Fatalf("% x: %d, %d, %d", s, n, size, e)
				}
			default:
				if n != uint64(a-128)+uint64(b)*128 || size != 2 || e != api.OK || PutNum(n) != s {
					t.Fatalf("% x: %d, %d, %d", s, n, size, e)
				}
			}
		}
	}
}
