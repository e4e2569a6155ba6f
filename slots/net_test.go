package slots_test

import (
	"math/rand"
	"testing"

	"slots/api"
	"slots/slots"
)

// checked: Check answers what a second reading of the document asks.
func checked(t *testing.T, s string) {
	t.Helper()
	want := api.ErrImage
	if isImage(s) {
		want = api.OK
	}
	if e := slots.Check(s); e != want {
		t.Fatalf("P3: Check(%.100q) = %d, want %d", s, e, want)
	}
}

// greatest: an image of 80 bytes, with as much of all as may be.
func greatest() string {
	s := "M" + raw(4, 24, 4)
	for i := range 24 {
		s += raw(1, i+3, i+3)
	}
	return s + raw(27, 0, 3, 26)
}

func TestP3Told(t *testing.T) {
	for _, c := range []struct {
		image string
		want  api.Errno
	}{
		{"M" + raw(1, 1, 1, 1, 0, 0, 1), api.OK},
		{"M" + raw(1, 0, 1, 0), api.OK},
		{"M" + raw(1, 1, 1, 1, 0, 1, 1), api.ErrImage},
		{"M" + raw(1, 3, 1, 0, 255, 253, 6, 1, 1, 3, 0, 2, 3), api.OK},
		{greatest(), api.OK},
		{greatest() + "\x00", api.ErrImage},
		{"M" + raw(1, 1, 1, 0, 255, 255, 1), api.OK},
		{"M" + raw(1, 1, 1, 6, 0, 15, 1), api.OK},
		{"M" + raw(1, 1, 1, 6, 0, 16, 1), api.ErrImage},
		{"M" + raw(1, 1, 1, 7, 0, 0, 1), api.OK},
		{"M" + raw(1, 1, 1, 7, 0, 1, 1), api.ErrImage},
		{"M" + raw(1, 1, 1, 8, 0, 0, 1), api.ErrImage},
		{"M" + raw(0, 1, 1, 0, 0, 0, 0), api.ErrImage},
		{"M" + raw(5, 0, 1, 0), api.ErrImage},
		{"M" + raw(1, 0, 0), api.ErrImage},
		{"M" + raw(1, 0, 5, 0, 0, 0, 0, 0), api.ErrImage},
		{"m" + raw(1, 0, 1, 0), api.ErrImage},
		{"", api.ErrImage},
	} {
		if e := slots.Check(c.image); e != c.want {
			t.Errorf("P3: Check(%q) = %d, want %d", c.image, e, c.want)
		}
	}
	if n := len(greatest()); n != 80 {
		t.Errorf("the greatest image has %d bytes", n)
	}
}

func TestP3NodeCounts(t *testing.T) {
	for ins := range 7 {
		for count := range 256 {
			for outs := range 7 {
				s := "M" + raw(ins, count, outs)
				for range count {
					s += raw(0, 0, 0)
				}
				for range outs {
					s += raw(0)
				}
				checked(t, s)
			}
		}
	}
}

func TestP3EachOperand(t *testing.T) {
	for what := range 256 {
		for b := range 256 {
			checked(t, "M"+raw(2, 2, 1, 1, 0, 1, what, b, 0, 3))
			checked(t, "M"+raw(2, 2, 1, 1, 0, 1, what, 0, b, 3))
			checked(t, "M"+raw(2, 2, 1, 1, 0, 1, what, 2, b, 3))
		}
	}
}

func TestP3Neighbours(t *testing.T) {
	r := rand.New(rand.NewSource(3))
	images := []string{greatest(), "M" + raw(1, 0, 1, 0), "M" + raw(1, 3, 1, 0, 255, 253, 6, 1, 1, 3, 0, 2, 3)}
	for range 20 {
		images = append(images, anImage(r))
	}
	for _, image := range images {
		for _, s := range neighbours(image) {
			checked(t, s)
		}
	}
}

func TestP4Told(t *testing.T) {
	double := "M" + raw(1, 1, 1, 1, 0, 0, 1)
	for _, c := range []struct {
		image, in, want string
	}{
		{double, words(21), words(42)},
		{double, words(20000), words(32767)},
		{double, words(-20000), words(-32768)},
		{"M" + raw(1, 0, 1, 0), words(-7), words(-7)},
		{"M" + raw(1, 3, 1, 0, 255, 253, 6, 1, 1, 3, 0, 2, 3), words(5), words(-10)},
		{"M" + raw(3, 0, 4, 2, 0, 2, 1), words(1, -2, 3), words(3, 1, 3, -2)},
	} {
		if s, e := slots.Eval(c.image, c.in); s != c.want || e != api.OK {
			t.Errorf("P4: Eval(%q, %q) = %q, %d, want %q", c.image, c.in, s, e, c.want)
		}
	}
}

func TestP4EachNode(t *testing.T) {
	for what := 1; what <= 5; what++ {
		image := "M" + raw(2, 1, 1, what, 0, 1, 2)
		for _, a := range wide {
			for _, b := range wide {
				want := words(does(what, 0, 1, []int{a, b}))
				if s, e := slots.Eval(image, words(a, b)); s != want || e != api.OK {
					t.Errorf("P4: node %d of %d, %d: %q, %d, want %q", what, a, b, s, e, want)
				}
			}
		}
	}
	for a := -32768; a <= 32767; a++ {
		image := "M" + raw(1, 1, 1, 0, a>>8, a, 1)
		if s, e := slots.Eval(image, words(a+1)); s != words(a) || e != api.OK {
			t.Fatalf("P4: Const %d: %q, %d", a, s, e)
		}
		if s, e := slots.Eval("M"+raw(1, 1, 1, 7, 0, 0, 1), words(a)); s != words(max(a, 0)) || e != api.OK {
			t.Fatalf("P4: Relu of %d: %q, %d", a, s, e)
		}
	}
	for b := range 16 {
		image := "M" + raw(1, 1, 1, 6, 0, b, 1)
		for a := -32768; a <= 32767; a++ {
			down := a / (1 << b)
			if down*(1<<b) > a {
				down--
			}
			if s, e := slots.Eval(image, words(a)); s != words(down) || e != api.OK {
				t.Fatalf("P4: %d shifted by %d: %q, %d", a, b, s, e)
			}
		}
	}
}

func TestP4AnyImage(t *testing.T) {
	r := rand.New(rand.NewSource(4))
	for range 5000 {
		image := anImage(r)
		for range 4 {
			l := someValues(r)
			in := words(l[:image[1]]...)
			want := evalTwice(image, l)
			if s, e := slots.Eval(image, in); s != want || e != api.OK {
				t.Fatalf("P4: Eval(%q, %q) = %q, %d, want %q", image, in, s, e, want)
			}
		}
	}
}

func TestP4Wrong(t *testing.T) {
	for ins := 1; ins <= 4; ins++ {
		image := "M" + raw(ins, 0, 1, 0)
		for n := range 300 {
			want := api.ErrInput
			if n == 2*ins {
				want = api.OK
			}
			s, e := slots.Eval(image, string(make([]byte, n)))
			if e != want || e != api.OK && s != "" {
				t.Errorf("P4: %d inputs, %d bytes: %q, %d", ins, n, s, e)
			}
		}
	}
	for _, in := range []string{"", "\x00", words(1), words(1, 2)} {
		if s, e := slots.Eval("M"+raw(1, 1, 1, 1, 0, 1, 1), in); s != "" || e != api.ErrImage {
			t.Errorf("P4: no image, %q: %q, %d", in, s, e)
		}
	}
}
