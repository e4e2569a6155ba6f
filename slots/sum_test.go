package slots_test

import (
	"math/rand"
	"strings"
	"testing"

	"slots/slots"
)

// divided: the sum as what is left of a long division, bit by bit: the text with two bytes 0 behind it and its first two bytes turned, over x^16 + x^12 + x^5 + 1.
func divided(s string) int {
	b := append([]byte(s), 0, 0)
	b[0] ^= 255
	b[1] ^= 255
	left := 0
	for i := range 8 * len(b) {
		left = left<<1 | int(b[i/8]>>(7-i%8))&1
		if left&0x10000 != 0 {
			left ^= 0x11021
		}
	}
	return left
}

func TestP2Told(t *testing.T) {
	for _, c := range []struct {
		s string
		n int
	}{{"", 65535}, {"123456789", 0x29b1}, {"A", 0xb915}, {"\x00", 0xe1f0}, {"\xff", 0xff00}, {"\xff\xff", 0}} {
		if n := slots.Sum(c.s); n != c.n {
			t.Errorf("P2: Sum(%q) = %#x, want %#x", c.s, n, c.n)
		}
	}
}

func TestP2Divided(t *testing.T) {
	for i := range 65536 {
		s := words(i)
		if n := slots.Sum(s); n != divided(s) {
			t.Fatalf("P2: Sum(%q) = %#x, want %#x", s, n, divided(s))
		}
	}
	r := rand.New(rand.NewSource(2))
	for range 2000 {
		b := make([]byte, r.Intn(300))
		r.Read(b)
		s := string(b)
		n := slots.Sum(s)
		if n != divided(s) {
			t.Fatalf("P2: Sum(%q) = %#x, want %#x", s, n, divided(s))
		}
		if slots.Sum(s+words(n)) != 0 {
			t.Fatalf("P2: the sum of a text and its sum is 0: %q", s)
		}
	}
}

func TestP2Long(t *testing.T) {
	s := strings.Repeat("a long text; ", 1<<18)
	if n := slots.Sum(s); n != divided(s) {
		t.Errorf("P2: a long text: %#x, want %#x", n, divided(s))
	}
	if n := slots.Sum(s); n < 0 || n > 65535 {
		t.Errorf("P2: %d is no number of 16 bits", n)
	}
}

func TestP2EachBitCounts(t *testing.T) {
	s := "each bit of it counts"
	n := slots.Sum(s)
	for i := range 8 * len(s) {
		b := []byte(s)
		b[i/8] ^= 1 << (i % 8)
		if slots.Sum(string(b)) == n {
			t.Errorf("P2: bit %d does not count", i)
		}
	}
}
