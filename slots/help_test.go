package slots_test

import (
	"math/big"
	"math/rand"
	"strings"
)

// words: values as words.
func words(l ...int) string {
	s := ""
	for _, v := range l {
		s += string([]byte{byte(v >> 8), byte(v)})
	}
	return s
}

// raw: numbers as bytes.
func raw(l ...int) string {
	s := ""
	for _, v := range l {
		s += string([]byte{byte(v)})
	}
	return s
}

// wide: values at and about all edges.
var wide = []int{-32768, -32767, -20000, -16385, -16384, -257, -256, -255, -182, -181, -3, -2, -1, 0, 1, 2, 3, 127, 128, 181, 182, 255, 256, 16383, 16384, 20000, 32766, 32767}

// reader takes a text apart from its front; bad once something was not there.
type reader struct {
	s   string
	bad bool
}

func (r *reader) next() int {
	if r.s == "" {
		r.bad = true
		return 0
	}
	n := int(r.s[0])
	r.s = r.s[1:]
	return n
}

func (r *reader) between(least, most int) int {
	n := r.next()
	if n < least || n > most {
		r.bad = true
	}
	return n
}

// operands: whether a node or an instruction may have these, if there are n values or cells; told by the document's table.
func operands(what, a, b, n int) bool {
	value := [8][2]bool{1: {true, true}, 2: {true, true}, 3: {true, true}, 4: {true, true}, 5: {true, true}, 6: {true, false}, 7: {true, false}}
	if what > 7 || value[what][0] && a >= n || value[what][1] && b >= n {
		return false
	}
	return !(what == 6 && b > 15 || what == 7 && b != 0)
}

// isImage: a second reading of what an image is.
func isImage(s string) bool {
	r := &reader{s: s}
	r.between('M', 'M')
	ins, count, outs := r.between(1, 4), r.between(0, 24), r.between(1, 4)
	for i := 0; i < count && !r.bad; i++ {
		what, a, b := r.next(), r.next(), r.next()
		r.bad = r.bad || !operands(what, a, b, ins+i)
	}
	for i := 0; i < outs && !r.bad; i++ {
		r.between(0, ins+count-1)
	}
	return !r.bad && r.s == ""
}

// isCode: a second reading of what a code is.
func isCode(s string) bool {
	r := &reader{s: s}
	r.between('K', 'K')
	ins := r.between(1, 4)
	cells, outs, count := r.between(ins, 32), r.between(1, 4), r.between(0, 48)
	for i := 0; i < outs && !r.bad; i++ {
		r.between(0, cells-1)
	}
	for i := 0; i < count && !r.bad; i++ {
		what, _, a, b := r.next(), r.between(0, cells-1), r.next(), r.next()
		r.bad = r.bad || !operands(what, a, b, cells)
	}
	return !r.bad && r.s == ""
}

// does: a second telling of what a node does, in numbers of any size.
func does(what, a, b int, l []int) int {
	at := func(i int) *big.Int { return big.NewInt(int64(l[i])) }
	v := new(big.Int)
	switch what {
	case 0:
		return int(int16(uint16(a)<<8 | uint16(b)))
	case 1:
		v.Add(at(a), at(b))
	case 2:
		v.Sub(at(a), at(b))
	case 3:
		v.Mul(at(a), at(b))
	case 4:
		return max(l[a], l[b])
	case 5:
		return min(l[a], l[b])
	case 6:
		// Div of big goes down where the divisor is above 0.
		v.Div(at(a), new(big.Int).Exp(big.NewInt(2), big.NewInt(int64(b)), nil))
	case 7:
		return max(l[a], 0)
	}
	if v.Cmp(big.NewInt(-32768)) < 0 {
		return -32768
	}
	if v.Cmp(big.NewInt(32767)) > 0 {
		return 32767
	}
	return int(v.Int64())
}

// evalTwice: a second telling of what an image answers.
func evalTwice(image string, l []int) string {
	ins, count := int(image[1]), int(image[2])
	l = append([]int{}, l[:ins]...)
	for i := range count {
		n := image[4+3*i:]
		l = append(l, does(int(n[0]), int(n[1]), int(n[2]), l))
	}
	s := ""
	for _, o := range image[4+3*count:] {
		s += words(l[o])
	}
	return s
}

// execTwice: a second telling of what a code answers.
func execTwice(code string, l []int) string {
	ins, cells, outs, count := int(code[1]), int(code[2]), int(code[3]), int(code[4])
	l = append(append([]int{}, l[:ins]...), make([]int, cells-ins)...)
	for i := range count {
		n := code[5+outs+4*i:]
		l[n[1]] = does(int(n[0]), int(n[2]), int(n[3]), l)
	}
	s := ""
	for _, o := range code[5 : 5+outs] {
		s += words(l[o])
	}
	return s
}

// operandsOf: some operands that may be, if there are n values or cells.
func operandsOf(r *rand.Rand, what, n int) (int, int) {
	switch what {
	case 0:
		return r.Intn(256), r.Intn(256)
	case 6:
		return r.Intn(n), r.Intn(16)
	case 7:
		return r.Intn(n), 0
	}
	return r.Intn(n), r.Intn(n)
}

// anImage: an image like any other.
func anImage(r *rand.Rand) string {
	ins, count, outs := 1+r.Intn(4), r.Intn(25), 1+r.Intn(4)
	s := "M" + raw(ins, count, outs)
	for i := range count {
		what := r.Intn(8)
		a, b := operandsOf(r, what, ins+i)
		s += raw(what, a, b)
	}
	for range outs {
		s += raw(r.Intn(ins + count))
	}
	return s
}

// aCode: a code like any other.
func aCode(r *rand.Rand) string {
	ins := 1 + r.Intn(4)
	cells, outs, count := ins+r.Intn(33-ins), 1+r.Intn(4), r.Intn(49)
	s := "K" + raw(ins, cells, outs, count)
	for range outs {
		s += raw(r.Intn(cells))
	}
	for range count {
		what := r.Intn(8)
		a, b := operandsOf(r, what, cells)
		s += raw(what, r.Intn(cells), a, b)
	}
	return s
}

// someValues: four values, of which those at the edges come often.
func someValues(r *rand.Rand) []int {
	var l []int
	for range 4 {
		if r.Intn(2) == 0 {
			l = append(l, wide[r.Intn(len(wide))])
		} else {
			l = append(l, r.Intn(65536)-32768)
		}
	}
	return l
}

// neighbours: all texts that differ from a text in one byte, or that are its beginnings, or have more behind it.
func neighbours(s string) []string {
	l := []string{s, s + "\x00", s + "\x01", s + s, s + strings.Repeat("\x00", 300)}
	for i := range len(s) {
		l = append(l, s[:i], s[i:])
		for b := range 256 {
			l = append(l, s[:i]+raw(b)+s[i+1:])
		}
	}
	return l
}

// huge: texts longer than any that may be.
var huge = []string{strings.Repeat("\x00", 1<<20), strings.Repeat("M", 1<<20), strings.Repeat("K", 1<<20), strings.Repeat("\xff", 1<<20), "M\x01\x00\x01" + strings.Repeat("\x00", 1<<20), "K\x01\x01\x01\x00" + strings.Repeat("\x00", 1<<20)}
