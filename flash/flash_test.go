package flash

import (
	"strings"
	"testing"

	"slots/api"
)

func TestNeeded(t *testing.T) {
	for _, c := range [][2]int{{0, 0}, {1, 1}, {15, 1}, {16, 1}, {17, 2}, {32, 2}, {33, 3}, {80, 5}, {96, 6}} {
		if n := Needed(c[0]); n != c[1] {
			t.Errorf("Needed(%d) = %d, want %d", c[0], n, c[1])
		}
	}
}

func TestWrites(t *testing.T) {
	var f Flash
	text := strings.Repeat("abcdefgh", 5)
	if !f.WriteAll(Spread(20, 3, text), -1, 0) {
		t.Fatal("the power fails")
	}
	if s := f.Text(20, 48); s != text+strings.Repeat("\x00", 8) {
		t.Errorf("pages 20 to 22: %q", s)
	}
	if f.WriteAll(Spread(20, 3, strings.Repeat("x", 48)), 1, 3) {
		t.Fatal("the power does not fail")
	}
	if s := f.Text(20, 40); s != strings.Repeat("x", 19)+text[19:] {
		t.Errorf("pages 20 to 22: %q", s)
	}
	for i := range 20 {
		if f.Page(i) != strings.Repeat("\x00", 16) {
			t.Errorf("page %d: %q", i, f.Page(i))
		}
	}
}

// TestPowerFails: each cut and torn page, at the edges and beyond all.
func TestPowerFails(t *testing.T) {
	old, text := strings.Repeat("o", 48), strings.Repeat("n", 48)
	for _, cut := range []int{-1 << 63, -1, 0, 1, 2, 3, 4, 1<<63 - 1} {
		for _, torn := range []int{-1 << 63, -1, 0, 1, 8, 15, 16, 17, 1<<63 - 1} {
			var f Flash
			f.WriteAll(Spread(4, 3, old), -1, 0)
			lasts := f.WriteAll(Spread(4, 3, text), cut, torn)
			n := 48
			if cut >= 0 && cut < 3 {
				n = 16*cut + max(0, min(16, torn))
			}
			if s := f.Text(4, 48); s != text[:n]+old[n:] || lasts != (cut < 0 || cut >= 3) {
				t.Errorf("cut %d, torn %d: %q, %t", cut, torn, s, lasts)
			}
			if f.Page(3)+f.Page(7) != strings.Repeat("\x00", 32) {
				t.Errorf("cut %d, torn %d: other pages are written", cut, torn)
			}
			if !f.WriteAll(nil, cut, torn) {
				t.Errorf("cut %d, torn %d: the power fails though nothing is written", cut, torn)
			}
		}
	}
}

func TestPagesThatAreNot(t *testing.T) {
	var f Flash
	for _, i := range []int{-1 << 63, -1, api.Pages, 1 << 60, 1<<63 - 1} {
		f.WriteAll([]Write{{Page: i, Text: "x"}}, -1, 0)
		if f.Page(i) != "" || f.Text(i, 0) != "" {
			t.Errorf("page %d: %q", i, f.Page(i))
		}
	}
	if f != (Flash{}) {
		t.Error("a page that is not was written")
	}
	if f.Text(22, 17) != "" || f.Text(0, -1) != "" || len(f.Text(0, 368)) != 368 {
		t.Error("bytes that are not")
	}
}
