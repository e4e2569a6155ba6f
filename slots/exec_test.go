package slots_test

import (
	"math/rand"
	"strings"
	"testing"

	"slots/api"
	"slots/slots"
)

// coded: Exec tells codes from other texts as a second reading of the document does.
func coded(t *testing.T, s string) {
	t.Helper()
	want := api.ErrCode
	if isCode(s) {
		want = api.ErrInput
	}
	// No code takes one byte: so ErrInput says that there is a code.
	if a, e := slots.Exec(s, "\x00"); a != "" || e != want {
		t.Fatalf("P5: Exec(%.100q, ..) = %q, %d, want %d", s, a, e, want)
	}
}

func TestP5Told(t *testing.T) {
	for _, c := range []struct {
		name, code, in, want string
	}{
		{"the input times itself", "K" + raw(1, 2, 1, 1, 1, 3, 1, 0, 0), words(-5), words(25)},
		{"no instruction", "K" + raw(1, 1, 1, 0, 0), words(-9), words(-9)},
		{"0 in the other cells", "K" + raw(1, 32, 4, 0, 0, 1, 30, 31), words(7), words(7, 0, 0, 0)},
		{"an operand that nothing wrote", "K" + raw(1, 3, 1, 1, 0, 1, 0, 0, 2), words(7), words(7)},
		{"an input's cell is written", "K" + raw(1, 1, 1, 2, 0, 1, 0, 0, 0, 1, 0, 0, 0), words(3), words(12)},
		{"a cell that is written twice", "K" + raw(1, 2, 1, 2, 1, 0, 1, 0, 5, 2, 1, 1, 0), words(3), words(2)},
		{"an operand that is written later", "K" + raw(1, 3, 2, 2, 1, 2, 1, 1, 2, 0, 0, 2, 0, 9), words(4), words(4, 9)},
		{"outputs in their order", "K" + raw(3, 3, 4, 0, 2, 0, 2, 1), words(1, 2, 3), words(3, 1, 3, 2)},
		{"outputs are read last", "K" + raw(1, 1, 1, 1, 0, 0, 0, 1, 2), words(4), words(258)},
	} {
		if s, e := slots.Exec(c.code, c.in); s != c.want || e != api.OK {
			t.Errorf("P5: %s: %q, %d, want %q", c.name, s, e, c.want)
		}
	}
	most := "K" + raw(1, 1, 1, 48, 0) + strings.Repeat(raw(1, 0, 0, 0), 48)
	if s, e := slots.Exec(most, words(-1)); s != words(-32768) || e != api.OK {
		t.Errorf("P5: 48 instructions: %q, %d", s, e)
	}
}

func TestP5Counts(t *testing.T) {
	for ins := range 7 {
		for _, cells := range []int{0, 1, 2, 3, 4, 5, 6, 31, 32, 33, 255} {
			for outs := range 7 {
				for _, count := range []int{0, 1, 2, 47, 48, 49, 50, 255} {
					coded(t, "K"+raw(ins, cells, outs, count)+strings.Repeat("\x00", outs+4*count))
				}
			}
		}
	}
}

func TestP5EachOperand(t *testing.T) {
	for what := range 256 {
		for b := range 256 {
			coded(t, "K"+raw(2, 5, 1, 1, 4, what, b, 0, 0))
			coded(t, "K"+raw(2, 5, 1, 1, 4, what, 4, b, 0))
			coded(t, "K"+raw(2, 5, 1, 1, 4, what, 4, 4, b))
		}
	}
}

func TestP5Neighbours(t *testing.T) {
	r := rand.New(rand.NewSource(5))
	codes := []string{"K" + raw(1, 1, 1, 0, 0), "K" + raw(1, 2, 1, 1, 1, 3, 1, 0, 0)}
	for range 20 {
		codes = append(codes, aCode(r))
	}
	for _, code := range codes {
		for _, s := range neighbours(code) {
			coded(t, s)
		}
	}
}

func TestP5AnyCode(t *testing.T) {
	r := rand.New(rand.NewSource(55))
	for range 5000 {
		code := aCode(r)
		for range 4 {
			l := someValues(r)
			in := words(l[:code[1]]...)
			want := execTwice(code, l)
			if s, e := slots.Exec(code, in); s != want || e != api.OK {
				t.Fatalf("P5: Exec(%q, %q) = %q, %d, want %q", code, in, s, e, want)
			}
		}
	}
}

func TestP5Wrong(t *testing.T) {
	for ins := 1; ins <= 4; ins++ {
		code := "K" + raw(ins, 4, 1, 0, 0)
		for n := range 300 {
			want := api.ErrInput
			if n == 2*ins {
				want = api.OK
			}
			s, e := slots.Exec(code, string(make([]byte, n)))
			if e != want || e != api.OK && s != "" {
				t.Errorf("P5: %d inputs, %d bytes: %q, %d", ins, n, s, e)
			}
		}
	}
	for _, in := range []string{"", "\x00", words(1), words(1, 2)} {
		if s, e := slots.Exec("K"+raw(1, 1, 1, 0, 1), in); s != "" || e != api.ErrCode {
			t.Errorf("P5: no code, %q: %q, %d", in, s, e)
		}
		if s, e := slots.Exec("M"+raw(1, 0, 1, 0), in); s != "" || e != api.ErrCode {
			t.Errorf("P5: an image, %q: %q, %d", in, s, e)
		}
	}
}
