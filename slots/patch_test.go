package slots_test

import (
	"math/rand"
	"strings"
	"testing"

	"slots/api"
	"slots/slots"
)

// patchTwice: a second telling of what comes out of a base by a patch.
func patchTwice(base, patch string) (string, bool) {
	r := &reader{s: patch}
	var out strings.Builder
	for r.s != "" && !r.bad {
		what, at := r.between(0, 3), 0
		if what == 0 || what == 3 {
			at = r.next()
		}
		count := r.next()
		if (what == 0 || what == 3) && at+count > len(base) {
			return "", false
		}
		fill := 0
		if what == 2 {
			fill = r.next()
		}
		for k := 0; k < count && !r.bad; k++ {
			switch what {
			case 0:
				out.WriteByte(base[at+k])
			case 1:
				out.WriteByte(byte(r.next()))
			case 2:
				out.WriteByte(byte(fill))
			case 3:
				out.WriteByte(byte((int(base[at+k]) + r.next()) % 256))
			}
		}
	}
	return out.String(), !r.bad
}

// patched: Patch answers what the second telling does, at the right length and at others.
func patched(t *testing.T, base, patch string) {
	t.Helper()
	want, ok := patchTwice(base, patch)
	for _, n := range []int{len(want), len(want) - 1, len(want) + 1, 0, -len(want), -1, 255, 256, len(want) + 256, -1 << 63, 1<<63 - 1} {
		s, e := slots.Patch(base, patch, n)
		if ok && n == len(want) {
			if s != want || e != api.OK {
				t.Fatalf("P7: Patch(%.100q, %.100q, %d) = %.100q, %d, want %.100q", base, patch, n, s, e, want)
			}
		} else if s != "" || e != api.ErrPatch {
			t.Fatalf("P7: Patch(%.100q, %.100q, %d) = %.100q, %d, want ErrPatch", base, patch, n, s, e)
		}
	}
}

func TestP7Told(t *testing.T) {
	doc := raw(0, 2, 3, 1, 1) + "x" + raw(2, 2) + "y"
	all := ""
	for b := range 255 {
		all += raw(b + 1)
	}
	for _, c := range []struct {
		name, base, patch, want string
	}{
		{"the document's", "abcdef", doc, "cdexyy"},
		{"the document's with bytes added", "abc", raw(3, 0, 2, 1, 255), "ba"},
		{"no step", "abc", "", ""},
		{"copies in any order", "abcdef", raw(0, 4, 2, 0, 0, 1, 0, 4, 2), "efaef"},
		{"all steps of no bytes", "", raw(0, 0, 0, 1, 0, 2, 0, 9, 3, 0, 0), ""},
		{"no bytes at the end of the base", "abc", raw(0, 3, 0, 3, 3, 0), ""},
		{"bytes that look like steps", "abc", raw(1, 4, 0, 0, 3, 9), raw(0, 0, 3, 9)},
		{"the longest of each", all, raw(0, 0, 255, 1, 255) + all + raw(2, 255, 7, 3, 0, 255) + strings.Repeat("\xff", 255), all + all + strings.Repeat("\a", 255) + raw(0) + all[:254]},
		{"the last place", all, raw(0, 254, 1, 3, 254, 1, 2), raw(255, 1)},
		{"a base longer than a place can tell", strings.Repeat("a", 255) + strings.Repeat("b", 300), raw(0, 255, 255, 3, 255, 255) + strings.Repeat("\x01", 255), strings.Repeat("b", 255) + strings.Repeat("c", 255)},
	} {
		if s, e := slots.Patch(c.base, c.patch, len(c.want)); s != c.want || e != api.OK {
			t.Errorf("P7: %s: %q, %d, want %q", c.name, s, e, c.want)
		}
		patched(t, c.base, c.patch)
	}
}

func TestP7Wrong(t *testing.T) {
	for _, c := range []struct {
		name, base, patch string
		n                 int
	}{
		{"more than n bytes", "abcdef", raw(0, 2, 3), 2},
		{"fewer than n bytes", "abcdef", raw(0, 2, 3), 4},
		{"n below 0", "", "", -1},
		{"no such step", "abc", raw(4, 0, 0), 0},
		{"no such step, alone", "abc", raw(4), 0},
		{"no such step behind one", "abc", raw(0, 0, 3, 255), 3},
		{"a copy without a place", "abc", raw(0), 0},
		{"a copy without a length", "abc", raw(0, 0), 0},
		{"a copy without a length at the end of the base", "abc", raw(0, 3), 0},
		{"bytes without a length", "abc", raw(1), 0},
		{"too few bytes", "abc", raw(1, 2, 9), 2},
		{"too few bytes, as many as n", "abc", raw(1, 2, 9), 1},
		{"a filling without a length", "abc", raw(2), 0},
		{"a filling without a byte", "abc", raw(2, 1), 1},
		{"a filling of no bytes without a byte", "abc", raw(2, 0), 0},
		{"a change without a place", "abc", raw(3), 0},
		{"a change without a length", "abc", raw(3, 0), 0},
		{"a change without its bytes", "abc", raw(3, 0, 2), 2},
		{"a change with too few bytes", "abc", raw(3, 0, 2, 1), 2},
		{"a copy beyond the base", "abc", raw(0, 1, 3), 3},
		{"a copy beyond the base, cut to it", "abc", raw(0, 1, 3), 2},
		{"a copy of no bytes beyond the base", "abc", raw(0, 4, 0), 0},
		{"a copy out of an empty base", "", raw(0, 0, 1), 1},
		{"a change beyond the base", "abc", raw(3, 2, 2, 0, 0), 2},
		{"a change of no bytes beyond the base", "abc", raw(3, 4, 0), 0},
		{"a change of no bytes beyond an empty base", "", raw(3, 1, 0), 0},
		{"a step beyond the base behind enough bytes", "abc", raw(0, 0, 3, 0, 4, 0), 3},
	} {
		if s, e := slots.Patch(c.base, c.patch, c.n); s != "" || e != api.ErrPatch {
			t.Errorf("P7: %s: %q, %d", c.name, s, e)
		}
		patched(t, c.base, c.patch)
	}
}

// TestP7EachReach: copies and changes of each place and length about the end of the base.
func TestP7EachReach(t *testing.T) {
	for _, size := range []int{0, 1, 2, 96, 254, 255, 256, 300, 509, 510, 511} {
		base := string(make([]byte, size))
		for at := range 256 {
			for _, count := range []int{0, 1, 2, size - at - 1, size - at, size - at + 1, 254, 255} {
				if count < 0 || count > 255 {
					continue
				}
				patched(t, base, raw(0, at, count))
				patched(t, base, raw(3, at, count)+strings.Repeat("\x02", count))
			}
		}
	}
}

// TestP7EachByte: each byte added to each.
func TestP7EachByte(t *testing.T) {
	all := ""
	for b := range 256 {
		all += raw(b)
	}
	for b := range 256 {
		patched(t, all, raw(3, 0, 255)+strings.Repeat(raw(b), 255))
		patched(t, all, raw(3, 1, 255)+strings.Repeat(raw(b), 255))
		patched(t, "", raw(2, b, b))
		patched(t, "", raw(1, b)+strings.Repeat(raw(b), b))
	}
}

// aPatch: a patch of some base like any other; some reach beyond it.
func aPatch(r *rand.Rand, size int) string {
	s := ""
	for range r.Intn(6) {
		at := r.Intn(size + 1)
		count := r.Intn(size - at + 1)
		if r.Intn(20) == 0 {
			count++
		}
		bytes := ""
		for range count {
			bytes += raw(r.Intn(256))
		}
		switch r.Intn(4) {
		case 0:
			s += raw(0, at, count)
		case 1:
			s += raw(1, count) + bytes
		case 2:
			s += raw(2, r.Intn(256), r.Intn(256))
		case 3:
			s += raw(3, at, count) + bytes
		}
	}
	return s
}

func TestP7AnyPatch(t *testing.T) {
	r := rand.New(rand.NewSource(7))
	for range 10000 {
		base := make([]byte, r.Intn(97))
		r.Read(base)
		patched(t, string(base), aPatch(r, len(base)))
	}
}

func TestP7Neighbours(t *testing.T) {
	r := rand.New(rand.NewSource(77))
	for range 5 {
		base := make([]byte, r.Intn(20))
		r.Read(base)
		for _, s := range neighbours(aPatch(r, len(base))) {
			patched(t, string(base), s)
		}
	}
}

// TestP7AllShort: all patches of up to five bytes out of a few.
func TestP7AllShort(t *testing.T) {
	l := []string{""}
	for range 5 {
		for _, s := range l {
			for b := range 6 {
				patched(t, "abc", s+raw(b))
			}
		}
		var longer []string
		for _, s := range l {
			for b := range 6 {
				longer = append(longer, s+raw(b))
			}
		}
		l = longer
	}
}

func TestP7Huge(t *testing.T) {
	for _, s := range append(huge, strings.Repeat(raw(2, 255, 1), 1<<16), strings.Repeat(raw(1, 0), 1<<19), strings.Repeat(raw(0, 0, 1), 1<<16), strings.Repeat(raw(0, 0, 1), 1<<16)+raw(0)) {
		patched(t, "abc", s)
		patched(t, s, raw(0, 255, 255, 3, 0, 2, 1, 2))
	}
}
