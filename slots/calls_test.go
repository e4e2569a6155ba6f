package slots_test

import (
	"math/rand"
	"strings"
	"testing"

	"slots/api"
	"slots/slots"
)

// called: the calls end at these texts, answer the same twice, and nothing beside an error.
func called(t *testing.T, s, in string) {
	t.Helper()
	n := slots.Sum(s)
	e := slots.Check(s)
	a, ea := slots.Eval(s, in)
	c, ec := slots.Exec(s, in)
	if n < 0 || n > 65535 || ea != api.OK && a != "" || ec != api.OK && c != "" {
		t.Fatalf("P1: %.100q, %.100q: %d, %q, %d, %q, %d", s, in, n, a, ea, c, ec)
	}
	if e != api.OK && ea != e {
		t.Fatalf("P1: %.100q: Check says %d, Eval %d", s, e, ea)
	}
	a2, ea2 := slots.Eval(s, in)
	c2, ec2 := slots.Exec(s, in)
	if slots.Sum(s) != n || slots.Check(s) != e || a2 != a || ea2 != ea || c2 != c || ec2 != ec {
		t.Fatalf("P1: %.100q, %.100q: another answer the second time", s, in)
	}
}

// calledOfTwo: the same of the calls that take two texts of bytes.
func calledOfTwo(t *testing.T, base, s string, n int) {
	t.Helper()
	code, e := slots.Compile(s)
	out, eo := slots.Patch(base, s, n)
	p, ep := slots.Diff(base, s)
	if e != slots.Check(s) || e != api.OK && code != "" || eo != api.OK && out != "" || ep != api.OK && p != "" {
		t.Fatalf("P1: %.100q, %.100q, %d: %q, %d, %.100q, %d, %q, %d", base, s, n, code, e, out, eo, p, ep)
	}
	code2, e2 := slots.Compile(s)
	out2, eo2 := slots.Patch(base, s, n)
	p2, ep2 := slots.Diff(base, s)
	if code2 != code || e2 != e || out2 != out || eo2 != eo || p2 != p || ep2 != ep {
		t.Fatalf("P1: %.100q, %.100q, %d: another answer the second time", base, s, n)
	}
}

func TestP1Huge(t *testing.T) {
	for _, s := range huge {
		called(t, s, "\x00\x01")
		called(t, "M"+raw(1, 0, 1, 0), s)
		called(t, "K"+raw(1, 1, 1, 0, 0), s)
		for _, n := range []int{-1 << 63, -1, 0, 1, 1 << 20, 1<<63 - 1} {
			calledOfTwo(t, s, s, n)
			calledOfTwo(t, "abc", s, n)
			calledOfTwo(t, s, raw(0, 0, 1), n)
		}
	}
}

func TestP1Any(t *testing.T) {
	r := rand.New(rand.NewSource(1))
	for i := range 100000 {
		b := make([]byte, r.Intn(30))
		for k := range b {
			b[k] = byte(r.Intn(8))
		}
		if len(b) > 0 {
			b[0] = "MK"[i%2]
		}
		called(t, string(b), words(r.Intn(65536), r.Intn(65536))[:r.Intn(5)])
		base := strings.Repeat("ab", r.Intn(60))
		calledOfTwo(t, base, string(b), r.Intn(10))
		calledOfTwo(t, base, string(b[min(len(b), 1):]), r.Intn(10)-1)
	}
}

func TestP1FirstErrorIsNamed(t *testing.T) {
	if s, e := slots.Eval("", ""); s != "" || e != api.ErrImage {
		t.Errorf("P1: Eval of nothing: %q, %d", s, e)
	}
	if s, e := slots.Compile(""); s != "" || e != api.ErrImage {
		t.Errorf("P1: Compile of nothing: %q, %d", s, e)
	}
	if s, e := slots.Exec("", ""); s != "" || e != api.ErrCode {
		t.Errorf("P1: Exec of nothing: %q, %d", s, e)
	}
}

// TestP1CallsAreApart: an answer does not hang on the calls between.
func TestP1CallsAreApart(t *testing.T) {
	r := rand.New(rand.NewSource(11))
	var images, codes, ins, evals, execs, compiles, patches []string
	for range 200 {
		image, code, l := anImage(r), aCode(r), someValues(r)
		images, codes, ins = append(images, image), append(codes, code), append(ins, words(l...))
		a, _ := slots.Eval(image, words(l[:image[1]]...))
		c, _ := slots.Exec(code, words(l[:code[1]]...))
		evals, execs = append(evals, a), append(execs, c)
		k, _ := slots.Compile(image)
		p, _ := slots.Diff(images[0], image)
		compiles, patches = append(compiles, k), append(patches, p)
	}
	for _, i := range r.Perm(len(images)) {
		if k, e := slots.Compile(images[i]); k != compiles[i] || e != api.OK {
			t.Errorf("P1: Compile(%q) = %q, %d, first it was %q", images[i], k, e, compiles[i])
		}
		if p, e := slots.Diff(images[0], images[i]); p != patches[i] || e != api.OK {
			t.Errorf("P1: Diff(%q, %q) = %q, %d, first it was %q", images[0], images[i], p, e, patches[i])
		}
		if s, e := slots.Patch(images[0], patches[i], len(images[i])); s != images[i] || e != api.OK {
			t.Errorf("P1: Patch(%q, %q) = %q, %d, it has to be %q", images[0], patches[i], s, e, images[i])
		}
		if a, e := slots.Eval(images[i], ins[i][:2*int(images[i][1])]); a != evals[i] || e != api.OK {
			t.Errorf("P1: Eval(%q) = %q, %d, first it was %q", images[i], a, e, evals[i])
		}
		if c, e := slots.Exec(codes[i], ins[i][:2*int(codes[i][1])]); c != execs[i] || e != api.OK {
			t.Errorf("P1: Exec(%q) = %q, %d, first it was %q", codes[i], c, e, execs[i])
		}
	}
}
