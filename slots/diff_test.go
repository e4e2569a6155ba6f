package slots_test

import (
	"math/rand"
	"strings"
	"testing"

	"slots/api"
	"slots/slots"
)

// differs: Diff gives a patch of these two that keeps all three bounds, and the same one again.
func differs(t *testing.T, base, now string) {
	t.Helper()
	p, e := slots.Diff(base, now)
	if e != api.OK {
		t.Fatalf("P8: Diff(%q, %q) = %q, %d", base, now, p, e)
	}
	if s, ok := patchTwice(base, p); !ok || s != now {
		t.Fatalf("P8: Diff(%q, %q) = %q, which gives %q", base, now, p, s)
	}
	if s, e := slots.Patch(base, p, len(now)); s != now || e != api.OK {
		t.Fatalf("P8: Diff(%q, %q) = %q, of which Patch gives %q, %d", base, now, p, s, e)
	}
	same := 0
	for same < min(len(base), len(now)) && base[:same+1] == now[:same+1] {
		same++
	}
	most := min(len(now)+2, len(now)-same+5)
	if base == now {
		most = min(most, 3)
	}
	if len(p) > most {
		t.Fatalf("P8: Diff(%q, %q) = %q: %d bytes, at most %d", base, now, p, len(p), most)
	}
	if again, e := slots.Diff(base, now); again != p || e != api.OK {
		t.Fatalf("P8: Diff(%q, %q) = %q, then %q, %d", base, now, p, again, e)
	}
}

func TestP8Told(t *testing.T) {
	long := strings.Repeat("a", 96)
	for _, c := range [][2]string{
		{"", ""}, {"abc", "abc"}, {"", "abc"}, {"abc", ""}, {"a", "a"}, {"ab", "ab"}, {"a", "b"},
		{"", long}, {long, ""}, {long, long}, {long, strings.Repeat("b", 96)}, {long[:95], long}, {long, long[:95]},
		{long[:95] + "b", long}, {"b" + long[:95], long}, {long[:48], long}, {long, long[:48] + strings.Repeat("b", 48)},
	} {
		differs(t, c[0], c[1])
	}
}

// TestP8EachFront: all lengths of what is alike in front, of the rest of base and of the rest of now.
func TestP8EachFront(t *testing.T) {
	all := ""
	for b := range 96 {
		all += raw(b * 7)
	}
	for same := 0; same <= 96; same++ {
		for more := 0; same+more <= 96; more++ {
			differs(t, all[:same], all[:same+more])
			differs(t, all[:same+more], all[:same])
			differs(t, all, all[:same]+strings.Repeat("\x01", more))
			differs(t, all[:same]+strings.Repeat("\x02", 96-same), all[:same]+strings.Repeat("\x01", more))
		}
	}
}

// TestP8AllShort: all texts of up to four bytes out of three.
func TestP8AllShort(t *testing.T) {
	l := []string{""}
	for i := 0; i < len(l); i++ {
		if len(l[i]) < 4 {
			l = append(l, l[i]+"\x00", l[i]+"\x03", l[i]+"\xff")
		}
	}
	for _, base := range l {
		for _, now := range l {
			differs(t, base, now)
		}
	}
}

func TestP8Any(t *testing.T) {
	r := rand.New(rand.NewSource(8))
	text := func() string {
		b := make([]byte, r.Intn(97))
		few := 2 + r.Intn(255)
		for i := range b {
			b[i] = byte(r.Intn(few))
		}
		return string(b)
	}
	for range 5000 {
		a, b := text(), text()
		differs(t, a, b)
		differs(t, a, a)
		differs(t, a, a[:len(a)/2]+b[len(b)/2:])
		differs(t, a, a[len(a)/3:])
		if len(a) > 0 {
			k := r.Intn(len(a))
			differs(t, a, a[:k]+raw(int(a[k])+1)+a[k+1:])
		}
	}
}

// TestP8Images: what Diff is for: from one image to another, by way of Patch.
func TestP8Images(t *testing.T) {
	r := rand.New(rand.NewSource(88))
	for range 2000 {
		differs(t, anImage(r), anImage(r))
	}
}

func TestP8Wrong(t *testing.T) {
	for _, n := range []int{96, 97, 98, 255, 256, 257, 352, 1 << 20} {
		s := strings.Repeat("x", n)
		for _, c := range [][2]string{{s, ""}, {"", s}, {s, s}, {s, "xxx"}, {"xxx", s}, {s, s[:96]}, {s[:96], s}, {s, s[1:]}} {
			p, e := slots.Diff(c[0], c[1])
			if len(c[0]) <= 96 && len(c[1]) <= 96 {
				differs(t, c[0], c[1])
			} else if p != "" || e != api.ErrPatch {
				t.Errorf("P8: Diff of %d and %d bytes: %q, %d", len(c[0]), len(c[1]), p, e)
			}
		}
	}
}
