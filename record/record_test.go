package record

import (
	"strings"
	"testing"
)

// page: a record of which the two numbers and the kept slot are told.
func page(first, last, kept int) string {
	return string([]byte{byte(first), byte(kept)}) + strings.Repeat("\x00", 13) + string([]byte{byte(last)})
}

// TestStanding: all pairs of numbers, whole and torn.
func TestStanding(t *testing.T) {
	for a := range 256 {
		for b := range 256 {
			for torn := range 4 {
				first, second := page(a, a+torn%2, 0), page(b, b+torn/2, 1)
				whole0, whole1 := torn%2 == 0, torn/2 == 0
				want := 0
				if whole1 && (!whole0 || a == b-1 || a == 255 && b == 0) {
					want = 1
				}
				r := Standing(first, second)
				if r.Page != want || r.Kept != want {
					t.Fatalf("numbers %d and %d, torn %d: page %d, want %d", a, b, torn, r.Page, want)
				}
			}
		}
	}
}

// TestText: a record is read as it was written, whatever its bytes are.
func TestText(t *testing.T) {
	s := "\x09\x01\x02\x03\x50\x51\x80\x01\xff\xfe\x3f\x00\x00\x00\x00\x09"
	r := Standing("", s)
	if r.Page != 0 {
		t.Errorf("of an empty page and number 9: page %d", r.Page)
	}
	r = Standing(page(8, 8, 0), s)
	if r.Text() != s || r.Slot(0) != (Slot{Size: 0x50, Version: 0x8001}) || r.Slot(1) != (Slot{Size: 0x51, Version: 0xfffe}) {
		t.Errorf("%+v: %q", r, r.Text())
	}
	for b := range 256 {
		if s := page(b, b, 1); read(1, s).Text() != s {
			t.Errorf("number %d: %q", b, read(1, s).Text())
		}
	}
}

// TestPageChanges: a new record goes into the other page, with the next number.
func TestPageChanges(t *testing.T) {
	r := First(Slot{Size: 8, Version: 7})
	for i := range 600 {
		if r.Page != i%2 || r.Text()[0] != byte(i+1) || r.Text()[15] != byte(i+1) {
			t.Fatalf("record %d: page %d, %q", i, r.Page, r.Text())
		}
		r = r.Steady()
	}
}

// TestTorn: of each number, a new record that is not wholly written does not count, be it torn once or twice; one that is does.
func TestTorn(t *testing.T) {
	r := First(Slot{Size: 8, Version: 7})
	pages := [2]string{r.Text(), strings.Repeat("\x00", 16)}
	for i := range 600 {
		next := r.Steady()
		if i%3 == 0 {
			next = r.Trying(Slot{Size: i % 97, Version: i})
		}
		for first := range 16 {
			for second := range 17 {
				now := pages
				for _, n := range []int{first, second} {
					now[next.Page] = next.Text()[:n] + now[next.Page][n:]
				}
				want := r
				if second == 16 {
					want = next
				}
				if got := Standing(now[0], now[1]); got != want {
					t.Fatalf("record %d, torn at %d and %d: %+v, want %+v", i, first, second, got, want)
				}
			}
		}
		pages[next.Page] = next.Text()
		r = next
	}
}

func TestChunksThatAreNot(t *testing.T) {
	r := First(Slot{}).Fetching()
	for i := range 6 {
		r = r.With(i)
	}
	for _, i := range []int{-1 << 63, -1, 6, 64, 1<<63 - 1} {
		if r.Has(i) {
			t.Errorf("chunk %d is there", i)
		}
	}
	if r.Missing(6) != 0 || r.Wanted(6) != -1 || r.Missing(8) != 2 || r.Wanted(8) != 6 {
		t.Errorf("%+v: %d, %d", r, r.Missing(8), r.Wanted(8))
	}
}
