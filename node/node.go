// Package node: what a node of a net does. An instruction of a code does the same, with cells in place of values.
package node

import (
	"slots/api"
	"slots/word"
)

const maxShift = 15

// Node is what is done, and its two operands.
type Node struct {
	What, A, B int
}

// Fits tells whether there is such a node, where the operands may be the first n values.
func (d Node) Fits(n int) bool {
	switch d.What {
	case api.Const:
		return true
	case api.Add, api.Sub, api.Mul, api.Max, api.Min:
		return d.A < n && d.B < n
	case api.Shift:
		return d.A < n && d.B <= maxShift
	case api.Relu:
		return d.A < n && d.B == 0
	}
	return false
}

// Operands is the operands that are values: not the bytes of a Const, nor how far a Shift goes.
func (d Node) Operands() []int {
	switch d.What {
	case api.Add, api.Sub, api.Mul, api.Max, api.Min:
		return []int{d.A, d.B}
	case api.Shift, api.Relu:
		return []int{d.A}
	}
	return nil
}

// Value is the node's value, where the values that it may take are those of the list.
func (d Node) Value(l []int) int {
	a := word.At(l, d.A)
	switch d.What {
	case api.Const:
		return word.Value(d.A, d.B)
	case api.Shift:
		return shift(a, d.B)
	case api.Relu:
		return greater(a, 0)
	}
	b := word.At(l, d.B)
	return ofTwo(d.What, a, b)
}

// ofTwo is the value of a node of which both operands are values.
func ofTwo(what, a, b int) int {
	switch what {
	case api.Add:
		return word.Clip(a + b)
	case api.Sub:
		return word.Clip(a - b)
	case api.Mul:
		return word.Clip(a * b)
	case api.Max:
		return greater(a, b)
	case api.Min:
		return lesser(a, b)
	}
	return 0
}

// shift halves b times; Go's shift of a number below 0 goes down to the next whole number, as is asked.
func shift(a, b int) int {
	if b < 0 || b > maxShift {
		return 0
	}
	return a >> uint(b)
}

func greater(a, b int) int {
	if a > b {
		return a
	}
	return b
}

func lesser(a, b int) int {
	if a < b {
		return a
	}
	return b
}
