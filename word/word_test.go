package word

import "testing"

func TestClip(t *testing.T) {
	for _, c := range [][2]int{{-1 << 30, -32768}, {-32769, -32768}, {-32768, -32768}, {-1, -1}, {0, 0}, {32767, 32767}, {32768, 32767}, {1 << 30, 32767}} {
		if n := Clip(c[0]); n != c[1] {
			t.Errorf("Clip(%d) = %d, want %d", c[0], n, c[1])
		}
	}
}

func TestWords(t *testing.T) {
	for v := -32768; v <= 32767; v++ {
		s := Text(v)
		if len(s) != Size || int16(uint16(s[0])<<8|uint16(s[1])) != int16(v) {
			t.Fatalf("Text(%d) = %q", v, s)
		}
		if n := Value(int(s[0]), int(s[1])); n != v {
			t.Fatalf("Value of the word of %d: %d", v, n)
		}
	}
	if l := Values("\x00\x01\xff\xff\x07"); len(l) != 2 || l[0] != 1 || l[1] != -1 {
		t.Errorf("Values leaves out what is no whole word: %v", l)
	}
}

func TestPlacesThatAre(t *testing.T) {
	for i := range 2 {
		if n := Byte("ab", i); n != 'a'+i {
			t.Errorf("Byte at %d: %d", i, n)
		}
		if n := At([]int{7, 8}, i); n != 7+i {
			t.Errorf("At %d: %d", i, n)
		}
	}
}

func TestPlacesThatAreNot(t *testing.T) {
	for _, i := range []int{-1 << 62, -1, 2, 1 << 62} {
		if n := Byte("ab", i); n != 0 {
			t.Errorf("Byte at %d: %d", i, n)
		}
		if n := At([]int{7, 8}, i); n != 0 {
			t.Errorf("At %d: %d", i, n)
		}
	}
	if l := Bytes("ab", 1, 3); len(l) != 3 || l[0] != 'b' || l[1] != 0 || l[2] != 0 {
		t.Errorf("Bytes: %v", l)
	}
	if s := Pick([]int{7, -8}, []int{1, 0, 2}); s != "\xff\xf8\x00\x07\x00\x00" {
		t.Errorf("Pick: %q", s)
	}
}

func TestNumbers(t *testing.T) {
	for n := range 65536 {
		if got := Number("x"+Text(n)+"y", 1); got != n {
			t.Fatalf("Number of the word of %d: %d", n, got)
		}
	}
	for _, i := range []int{-1 << 63, 2, 1<<63 - 1} {
		if n := Number("ab", i); n != 0 {
			t.Errorf("Number at %d: %d", i, n)
		}
	}
}

func TestParts(t *testing.T) {
	for _, c := range []struct {
		from, n int
		want    string
		ok      bool
	}{
		{0, 3, "abc", true}, {0, 0, "", true}, {3, 0, "", true}, {1, 1, "b", true}, {2, 1, "c", true},
		{4, 0, "", false}, {2, 2, "", false}, {0, 4, "", false}, {-1, 1, "", false}, {1, -1, "", false}, {1, 1<<63 - 1, "", false}, {1<<63 - 1, 1, "", false}, {-1 << 63, -1 << 63, "", false},
	} {
		if s, ok := Part("abc", c.from, c.n); s != c.want || ok != c.ok {
			t.Errorf("Part at %d, %d bytes: %q, %v", c.from, c.n, s, ok)
		}
	}
	if s := Padded("abc", 1, 4); s != "bc\x00\x00" {
		t.Errorf("Padded: %q", s)
	}
	if s := Padded("abc", 5, 1); s != "\x00" {
		t.Errorf("Padded beyond: %q", s)
	}
	if s := Padded("abc", 0, 0); s != "" {
		t.Errorf("Padded with nothing: %q", s)
	}
}
