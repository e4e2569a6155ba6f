// Package straight: straight code, a list of instructions that work on cells.
package straight

import (
	"slots/api"
	"slots/node"
	"slots/word"
)

const (
	mark     = 'K'
	headSize = 5
	stepSize = 4
)

// Step is an instruction: what it does, and the cell that it writes.
type Step struct {
	Does node.Node
	To   int
}

// Code is a code: how many inputs and cells it has, the cells that are its outputs, and its instructions.
type Code struct {
	Ins, Cells int
	Outs       []int
	Steps      []Step
}

// Parse reads a code; false if it is none.
func Parse(text string) (Code, bool) {
	if !shaped(text) {
		return Code{}, false
	}
	outs := word.Byte(text, 3)
	count := word.Byte(text, 4)
	var c Code
	c.Ins = word.Byte(text, 1)
	c.Cells = word.Byte(text, 2)
	c.Outs = word.Bytes(text, headSize, outs)
	c.Steps = steps(text, headSize+outs, count)
	if !c.sound() {
		return Code{}, false
	}
	return c, true
}

// shaped tells whether the head of a code holds, and the code has the length that the head tells.
func shaped(text string) bool {
	if len(text) < headSize || text[0] != mark {
		return false
	}
	ins := int(text[1])
	cells := int(text[2])
	outs := int(text[3])
	count := int(text[4])
	if ins < 1 || ins > api.MaxIn || cells < ins || cells > api.MaxCells {
		return false
	}
	if outs < 1 || outs > api.MaxOut || count > api.MaxCode {
		return false
	}
	return len(text) == headSize+outs+stepSize*count
}

// steps reads the instructions of a code, from a place on.
func steps(text string, from, count int) []Step {
	var l []Step
	for i := 0; i < count; i++ {
		var s Step
		at := from + stepSize*i
		s.Does.What = word.Byte(text, at)
		s.To = word.Byte(text, at+1)
		s.Does.A = word.Byte(text, at+2)
		s.Does.B = word.Byte(text, at+3)
		l = append(l, s)
	}
	return l
}

// sound tells whether all that has to be a cell is one.
func (c Code) sound() bool {
	for i := 0; i < len(c.Outs); i++ {
		if c.Outs[i] >= c.Cells {
			return false
		}
	}
	for i := 0; i < len(c.Steps); i++ {
		if c.Steps[i].To >= c.Cells || !c.Steps[i].Does.Fits(c.Cells) {
			return false
		}
	}
	return true
}

// Takes tells whether a text has a word for each input.
func (c Code) Takes(in string) bool {
	return len(in) == word.Size*c.Ins
}

// Exec is the words of the outputs' cells, for the words of the inputs.
func (c Code) Exec(in string) string {
	cells := word.Values(in)
	for len(cells) < c.Cells {
		cells = append(cells, 0)
	}
	for i := 0; i < len(c.Steps); i++ {
		v := c.Steps[i].Does.Value(cells)
		to := c.Steps[i].To
		if to >= 0 && to < len(cells) {
			cells[to] = v
		}
	}
	return word.Pick(cells, c.Outs)
}

// Text is the code as bytes.
func (c Code) Text() string {
	b := []byte{mark, byte(c.Ins), byte(c.Cells), byte(len(c.Outs)), byte(len(c.Steps))}
	for i := 0; i < len(c.Outs); i++ {
		b = append(b, byte(c.Outs[i]))
	}
	for i := 0; i < len(c.Steps); i++ {
		s := c.Steps[i]
		b = append(b, byte(s.Does.What), byte(s.To), byte(s.Does.A), byte(s.Does.B))
	}
	return string(b)
}
