package slots_test

import (
	"math/rand"
	"strings"
	"testing"

	"slots/api"
	"slots/slots"
)

// valuesOf: which of the operands of a node are values; told by the document's table.
func valuesOf(what, a, b int) []int {
	switch what {
	case 0:
		return nil
	case 6, 7:
		return []int{a}
	}
	return []int{a, b}
}

// bounds: how many instructions Const and others the code of an image may have, by a second reading of what is live and fixed: each is grown until nothing is new.
func bounds(image string) (int, int) {
	ins, count := int(image[1]), int(image[2])
	live, fixed, out := map[int]bool{}, map[int]bool{}, map[int]bool{}
	for _, o := range []byte(image[4+3*count:]) {
		out[int(o)], live[int(o)] = true, true
	}
	operands := func(i int) []int {
		n := image[4+3*i:]
		return valuesOf(int(n[0]), int(n[1]), int(n[2]))
	}
	for range count + 1 {
		for i := range count {
			all := true
			for _, v := range operands(i) {
				all = all && fixed[v]
				if live[ins+i] {
					live[v] = true
				}
			}
			if all {
				fixed[ins+i] = true
			}
		}
	}
	taken := map[int]bool{}
	consts, others := 0, 0
	for i := range count {
		if live[ins+i] && !fixed[ins+i] {
			others++
			for _, v := range operands(i) {
				taken[v] = true
			}
		}
	}
	for i := range count {
		if v := ins + i; live[v] && fixed[v] && (out[v] || taken[v]) {
			consts++
		}
	}
	return consts, others
}

// held: how many instructions Const and others a code has.
func held(code string) (int, int) {
	consts := 0
	for i := 5 + int(code[3]); i < len(code); i += 4 {
		if code[i] == 0 {
			consts++
		}
	}
	return consts, int(code[4]) - consts
}

// compiled: the code of an image; it is one, with as many inputs and outputs, and keeps the bounds.
func compiled(t *testing.T, image string) string {
	t.Helper()
	code, e := slots.Compile(image)
	if e != api.OK || !isCode(code) {
		t.Fatalf("P6: Compile(%q) = %q, %d: no code", image, code, e)
	}
	if code[1] != image[1] || code[3] != image[3] {
		t.Fatalf("P6: Compile(%q) = %q: other inputs or outputs", image, code)
	}
	consts, others := held(code)
	if c, o := bounds(image); consts > c || others > o {
		t.Fatalf("P6: Compile(%q) = %q: %d Const, %d others; at most %d, %d", image, code, consts, others, c, o)
	}
	if int(code[2]) > int(code[1])+int(code[4]) {
		t.Fatalf("P6: Compile(%q) = %q: more cells than inputs and instructions", image, code)
	}
	if again, e := slots.Compile(image); again != code || e != api.OK {
		t.Fatalf("P6: Compile(%q) = %q, then %q, %d", image, code, again, e)
	}
	return code
}

// answers: the code answers what the net answers.
func answers(t *testing.T, image, code string, l []int) {
	t.Helper()
	in := words(l[:image[1]]...)
	want := evalTwice(image, l)
	if s := execTwice(code, l); s != want {
		t.Fatalf("P6: %q at %q: the net gives %q, its code %q %q", image, in, want, code, s)
	}
	if s, e := slots.Exec(code, in); s != want || e != api.OK {
		t.Fatalf("P6: %q at %q: the net gives %q, Exec of its code %q %q, %d", image, in, want, code, s, e)
	}
}

func TestP6Told(t *testing.T) {
	for _, c := range []struct {
		name, image    string
		consts, others int
	}{
		{"the document's image with two fixed nodes", "M" + raw(1, 3, 1, 0, 255, 253, 6, 1, 1, 3, 0, 2, 3), 1, 1},
		{"no node", "M" + raw(4, 0, 4, 3, 2, 2, 0), 0, 0},
		{"no live node", "M" + raw(2, 3, 1, 0, 0, 1, 1, 0, 2, 3, 3, 3, 1), 0, 0},
		{"a node that only a node that is not live takes", "M" + raw(1, 3, 1, 1, 0, 0, 3, 1, 1, 2, 0, 0, 3), 0, 1},
		{"a live node behind one that is not", "M" + raw(1, 4, 2, 2, 0, 0, 1, 0, 0, 4, 1, 1, 3, 2, 0, 4, 2), 0, 2},
		{"all nodes live", "M" + raw(1, 3, 1, 1, 0, 0, 1, 1, 1, 1, 2, 2, 3), 0, 3},
		{"one output twice", "M" + raw(1, 1, 4, 1, 0, 0, 1, 1, 0, 1), 0, 1},
		{"a Const as output", "M" + raw(1, 1, 1, 0, 128, 0, 1), 1, 0},
		{"a Const as output, which a fixed output takes", "M" + raw(1, 2, 2, 0, 1, 2, 7, 1, 0, 1, 2), 2, 0},
		{"a fixed node of fixed nodes alone", "M" + raw(1, 4, 1, 0, 0, 3, 0, 0, 4, 3, 1, 2, 1, 3, 3, 4), 1, 0},
		{"an operand in part fixed", "M" + raw(1, 3, 1, 0, 0, 3, 1, 0, 1, 1, 2, 1, 3), 1, 2},
		{"a Sub of an input from itself is not fixed", "M" + raw(1, 2, 1, 2, 0, 0, 7, 1, 0, 2), 0, 2},
		{"a Shift does not take the value of the number b", "M" + raw(1, 2, 1, 1, 0, 0, 6, 0, 1, 2), 0, 1},
		{"a fixed Shift, where the value of the number b is not fixed", "M" + raw(1, 2, 1, 0, 0, 64, 6, 1, 0, 2), 1, 0},
		{"a fixed Relu, where the value 0 is an input", "M" + raw(1, 2, 1, 0, 255, 255, 7, 1, 0, 2), 1, 0},
		{"a Const does not take the values of its bytes", "M" + raw(1, 3, 1, 1, 0, 0, 1, 0, 0, 0, 1, 2, 3), 1, 0},
		{"a fixed node that only a node that is not live takes", "M" + raw(1, 3, 1, 0, 0, 3, 1, 0, 1, 7, 0, 0, 3), 0, 1},
	} {
		if consts, others := bounds(c.image); consts != c.consts || others != c.others {
			t.Errorf("P6: %s: the test's own bounds are %d, %d", c.name, consts, others)
		}
		code := compiled(t, c.image)
		if consts, others := held(code); consts > c.consts || others > c.others {
			t.Errorf("P6: %s: %d Const, %d others", c.name, consts, others)
		}
		for _, v := range wide {
			answers(t, c.image, code, []int{v, -v % 32768, 7, -7})
		}
	}
}

// TestP6Folded: fixed nodes of each kind have the value that the net has, at all edges.
func TestP6Folded(t *testing.T) {
	for what := 1; what < 8; what++ {
		for _, a := range wide {
			for k, b := range wide {
				image := "M" + raw(1, 3, 1, 0, a>>8, a, 0, b>>8, b, what)
				switch what {
				case 6:
					image += raw(1, k%16)
				case 7:
					image += raw(1, 0)
				default:
					image += raw(1, 2)
				}
				image += raw(3)
				code := compiled(t, image)
				answers(t, image, code, []int{k})
			}
		}
	}
}

// TestP6Most: the greatest images: no code has more than 28 cells, so all fit.
func TestP6Most(t *testing.T) {
	r := rand.New(rand.NewSource(66))
	for ins := 1; ins <= 4; ins++ {
		for _, n := range []string{raw(1, 0, 0), raw(2, 0, ins-1), raw(3, 0, 0), raw(4, 0, ins-1), raw(5, 0, 0), raw(6, 0, 15), raw(7, 0, 0), raw(0, 1, 44)} {
			image := "M" + raw(ins, 24, 4) + strings.Repeat(n, 24) + raw(ins+23, ins+22, ins, 0)
			answers(t, image, compiled(t, image), someValues(r))
		}
		chain := "M" + raw(ins, 24, 4)
		for i := range 24 {
			chain += raw(1+i%5, ins+i-1, i%ins)
		}
		chain += raw(ins+23, ins+23, 0, ins)
		for range 100 {
			answers(t, chain, compiled(t, chain), someValues(r))
		}
	}
}

func TestP6AnyImage(t *testing.T) {
	r := rand.New(rand.NewSource(6))
	for i := range 20000 {
		image := anImage(r)
		if i%2 == 0 {
			image = mostlyFixed(r)
		}
		code := compiled(t, image)
		for range 4 {
			answers(t, image, code, someValues(r))
		}
	}
}

// mostlyFixed: an image of which many nodes are fixed, and many outputs are far behind.
func mostlyFixed(r *rand.Rand) string {
	ins, count, outs := 1+r.Intn(4), 1+r.Intn(24), 1+r.Intn(4)
	s := "M" + raw(ins, count, outs)
	for i := range count {
		what := []int{0, 0, 1, 2, 3, 4, 5, 6, 7}[r.Intn(9)]
		if i == 0 {
			what = 0
		}
		a, b := operandsOf(r, what, ins+i)
		if i > 0 && what != 0 && r.Intn(4) > 0 {
			a = ins + r.Intn(i)
			if what < 6 {
				b = ins + r.Intn(i)
			}
		}
		s += raw(what, a, b)
	}
	for range outs {
		s += raw(ins + count - 1 - r.Intn(min(count, 4)))
	}
	return s
}

// TestP6OtherInputs: whatever in is, Exec answers what Eval answers, also if that is ErrInput.
func TestP6OtherInputs(t *testing.T) {
	r := rand.New(rand.NewSource(67))
	for range 300 {
		image := anImage(r)
		code := compiled(t, image)
		for n := range 12 {
			in := words(someValues(r)...) + words(someValues(r)...)
			a, e := slots.Eval(image, in[:n])
			b, f := slots.Exec(code, in[:n])
			if a != b || e != f {
				t.Fatalf("P6: %q at %q: the net answers %q, %d, its code %q, %d", image, in[:n], a, e, b, f)
			}
		}
	}
}

func TestP6Wrong(t *testing.T) {
	r := rand.New(rand.NewSource(68))
	images := []string{"", "K" + raw(1, 1, 1, 0, 0), "M" + raw(1, 1, 1, 1, 0, 1, 1)}
	for range 5 {
		images = append(images, anImage(r))
	}
	for _, image := range images {
		for _, s := range neighbours(image) {
			if isImage(s) {
				answers(t, s, compiled(t, s), someValues(r))
				continue
			}
			if c, e := slots.Compile(s); c != "" || e != api.ErrImage {
				t.Fatalf("P6: Compile(%.100q) = %q, %d", s, c, e)
			}
		}
	}
}
