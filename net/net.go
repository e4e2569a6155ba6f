// Package net: images and the nets that they are.
package net

import (
	"slots/api"
	"slots/node"
	"slots/word"
)

const (
	mark     = 'M'
	headSize = 4
	nodeSize = 3
)

// Net is a net: how many inputs it has, its nodes, and the values that are its outputs.
type Net struct {
	Ins   int
	Nodes []node.Node
	Outs  []int
}

// Parse reads an image; false if it is none.
func Parse(image string) (Net, bool) {
	if !shaped(image) {
		return Net{}, false
	}
	count := word.Byte(image, 2)
	outs := word.Byte(image, 3)
	var n Net
	n.Ins = word.Byte(image, 1)
	n.Nodes = nodes(image, count)
	n.Outs = word.Bytes(image, headSize+nodeSize*count, outs)
	if !n.sound() {
		return Net{}, false
	}
	return n, true
}

// Check is ErrImage if some bytes are no image.
func Check(image string) api.Errno {
	_, ok := Parse(image)
	if !ok {
		return api.ErrImage
	}
	return api.OK
}

// Answer is what the net of an image answers, or why it does not.
func Answer(image, in string) (string, api.Errno) {
	n, ok := Parse(image)
	if !ok {
		return "", api.ErrImage
	}
	if !n.Takes(in) {
		return "", api.ErrInput
	}
	return n.Eval(in), api.OK
}

// shaped tells whether the head of an image holds, and the image has the length that the head tells.
func shaped(image string) bool {
	if len(image) < headSize || image[0] != mark {
		return false
	}
	ins := int(image[1])
	count := int(image[2])
	outs := int(image[3])
	if ins < 1 || ins > api.MaxIn || count > api.MaxNodes || outs < 1 || outs > api.MaxOut {
		return false
	}
	return len(image) == headSize+nodeSize*count+outs
}

// nodes reads the nodes of an image.
func nodes(image string, count int) []node.Node {
	var l []node.Node
	for i := 0; i < count; i++ {
		var d node.Node
		at := headSize + nodeSize*i
		d.What = word.Byte(image, at)
		d.A = word.Byte(image, at+1)
		d.B = word.Byte(image, at+2)
		l = append(l, d)
	}
	return l
}

// sound tells whether each node takes values ahead of it alone, and each output is a value.
func (n Net) sound() bool {
	for i := 0; i < len(n.Nodes); i++ {
		if !n.Nodes[i].Fits(n.Ins + i) {
			return false
		}
	}
	for i := 0; i < len(n.Outs); i++ {
		if n.Outs[i] >= n.Ins+len(n.Nodes) {
			return false
		}
	}
	return true
}

// Takes tells whether a text has a word for each input.
func (n Net) Takes(in string) bool {
	return len(in) == word.Size*n.Ins
}

// Values is all values, for the words of the inputs; an input without a word is 0.
func (n Net) Values(in string) []int {
	given := word.Values(in)
	var l []int
	for i := 0; i < n.Ins; i++ {
		l = append(l, word.At(given, i))
	}
	for i := 0; i < len(n.Nodes); i++ {
		v := n.Nodes[i].Value(l)
		l = append(l, v)
	}
	return l
}

// Eval is the words of the outputs, for the words of the inputs.
func (n Net) Eval(in string) string {
	l := n.Values(in)
	return word.Pick(l, n.Outs)
}
