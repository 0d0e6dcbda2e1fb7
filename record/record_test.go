package record

import (
	"hash/crc32"
	"math/rand"
	"strings"
	"testing"
)

func TestSum(t *testing.T) {
	for bytes, want := range map[string]uint32{"": 0, "123456789": 0xcbf43926, "\x00": 0xd202ef8d, "\x00\x00\x00\x00": 0x2144df1c, "\xff\xff\xff\xff": 0xffffffff, "a": 0xe8b7be43} {
		if got := sum(bytes); got != want {
			t.Errorf("sum(%x) = %08x, want %08x", bytes, got, want)
		}
	}
	r := rand.New(rand.NewSource(1))
	for n := range 600 {
		bytes := make([]byte, n)
		r.Read(bytes)
		if got, want := sum(string(bytes)), crc32.ChecksumIEEE(bytes); got != want {
			t.Errorf("sum(%x) = %08x, want %08x", bytes, got, want)
		}
	}
}

func TestOf(t *testing.T) {
	for request, want := range map[string]string{
		"":                      "\x00\x00\xff\x12\xd9\x41",
		"\x02\x01a":             "\x00\x03\x02\x01\x61\x12\xec\xbd\xf4",
		"\x01\x01a\x02\x01\x01": "\x00\x06\x01\x01\x61\x02\x01\x01\x99\x55\xcc\x1e",
	} {
		if got := Of(request); got != want {
			t.Errorf("Of(%x) = %x, want %x", request, got, want)
		}
	}
}

func wantNone(t *testing.T, journal string) {
	t.Helper()
	if request, there := First(journal); there || request != "" {
		t.Errorf("First(%.100x) = %.100x, %t, want none", journal, request, there)
	}
}

// TestFirst: of requests of all lengths that a record can have, whatever stands behind.
func TestFirst(t *testing.T) {
	for _, n := range []int{0, 1, 2, 254, 255, 256, 257, 0x7fff, 0x8000, 65534, 65535} {
		request := strings.Repeat("r", n)
		made := Of(request)
		if len(made) != n+6 || made[0] != byte(n>>8) || made[1] != byte(n) {
			t.Errorf("the record of %d bytes has %d, and begins with %x", n, len(made), made[:2])
		}
		for _, behind := range []string{"", "\x00", made, strings.Repeat("\xff", 70000)} {
			if got, there := First(made + behind); got != request || !there {
				t.Errorf("First gives %d bytes of %d, %t", len(got), n, there)
			}
		}
		wantNone(t, made[:n+5])
		wantNone(t, made[1:])
	}
}

func TestNoFirst(t *testing.T) {
	made := Of("\x03\x01a\x00\x07\x3f\x80\x00\x00")
	for cut := range len(made) {
		wantNone(t, made[:cut])
		for bit := range 8 {
			turned := []byte(made)
			turned[cut] ^= 1 << bit
			wantNone(t, string(turned))
			wantNone(t, string(turned)+strings.Repeat(made, 10000))
		}
	}
}
