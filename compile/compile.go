// Package compile: nets turned into straight code.
package compile

import (
	"slots/api"
	"slots/net"
	"slots/node"
	"slots/straight"
	"slots/word"
)

// Of is a code that answers what a net answers: each needed node has an instruction, and each instruction a cell of its own.
func Of(n net.Net) straight.Code {
	known := fixed(n)
	need := needed(n, known)
	// A fixed node has the same value whatever the inputs are, so any inputs will do.
	values := n.Values("")
	c := straight.Code{Ins: n.Ins, Cells: n.Ins}
	var cells []int
	for i := 0; i < n.Ins; i++ {
		cells = append(cells, i)
	}
	for i := 0; i < len(n.Nodes); i++ {
		at := n.Ins + i
		// A node that is not needed holds a place in the list alone: nobody asks for its cell.
		cells = append(cells, c.Cells)
		if !has(need, at) {
			continue
		}
		d := moved(n.Nodes[i], cells)
		if has(known, at) {
			v := word.At(values, at)
			d = constant(v)
		}
		c.Steps = append(c.Steps, straight.Step{Does: d, To: c.Cells})
		c.Cells++
	}
	for i := 0; i < len(n.Outs); i++ {
		c.Outs = append(c.Outs, word.At(cells, n.Outs[i]))
	}
	return c
}

// fixed is the values that are fixed nodes'. A Const is one of them, since no value is its operand.
func fixed(n net.Net) []int {
	var l []int
	for i := 0; i < len(n.Nodes); i++ {
		operands := n.Nodes[i].Operands()
		if hasAll(l, operands) {
			l = append(l, n.Ins+i)
		}
	}
	return l
}

// needed is the values that have to stand in a cell: outputs, and operands of needed nodes.
// Of a fixed node the value is known already: nothing is needed for its sake.
func needed(n net.Net, known []int) []int {
	var l []int
	l = append(l, n.Outs...)
	for i := len(n.Nodes) - 1; i >= 0; i-- {
		at := n.Ins + i
		if has(l, at) && !has(known, at) {
			operands := n.Nodes[i].Operands()
			l = append(l, operands...)
		}
	}
	return l
}

// has tells whether a value is in a list.
func has(l []int, v int) bool {
	for i := 0; i < len(l); i++ {
		if l[i] == v {
			return true
		}
	}
	return false
}

// hasAll tells whether all of some values are in a list.
func hasAll(l []int, some []int) bool {
	for i := 0; i < len(some); i++ {
		if !has(l, some[i]) {
			return false
		}
	}
	return true
}

// moved is a node that takes the cells of its values. What is no value stays: how far a Shift goes, and the 0 of a Relu.
func moved(d node.Node, cells []int) node.Node {
	count := len(d.Operands())
	if count > 0 {
		d.A = word.At(cells, d.A)
	}
	if count > 1 {
		d.B = word.At(cells, d.B)
	}
	return d
}

// constant is the Const of a value.
func constant(v int) node.Node {
	high, low := word.Split(v)
	return node.Node{What: api.Const, A: high, B: low}
}
