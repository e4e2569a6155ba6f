// Package manifest: what a device is told of an image ahead of its chunks.
package manifest

import (
	"slots/api"
	"slots/flash"
	"slots/net"
	"slots/sum"
	"slots/word"
)

const (
	baseAt      = 2
	patchAt     = 4
	imageAt     = 5
	imageSumAt  = 6
	chunkSumsAt = 8

	maxExample = 8 // bytes of a question, and of an answer
)

// Manifest is a manifest without its seal.
type Manifest struct {
	Version, Base        int
	PatchSize, ImageSize int
	ImageSum             int
	chunkSums            []int
	example              bool
	question, answer     string
}

// Parse reads a manifest that is sealed by a key; false if it is none.
func Parse(key, s string) (Manifest, bool) {
	m, end, ok := read(s)
	if !ok || end+word.Size != len(s) {
		return Manifest{}, false
	}
	ahead := word.Padded(s, 0, end)
	seal := word.Number(s, end)
	if sum.Of(key+ahead) != seal {
		return Manifest{}, false
	}
	return m, true
}

// Stored reads a manifest that was found to be one before it was stored; what stands behind it is passed over.
func Stored(s string) Manifest {
	m, _, _ := read(s)
	return m
}

// read takes a manifest from the front of a text, and tells the place of its seal; false if there is none.
// What is beyond the text counts as 0 here: then the place of the seal is beyond it, too.
func read(s string) (Manifest, int, bool) {
	m := head(s)
	if m.PatchSize < 1 || m.PatchSize > api.MaxPatch || m.ImageSize < 1 || m.ImageSize > api.MaxImage {
		return Manifest{}, 0, false
	}
	at := chunkSumsAt
	for i := 0; i < m.Chunks(); i++ {
		n := word.Number(s, at)
		m.chunkSums = append(m.chunkSums, n)
		at += word.Size
	}
	switch word.Byte(s, at) {
	case 0:
		return m, at + 1, true
	case 1:
		return withExample(m, s, at+1)
	}
	return Manifest{}, 0, false
}

// head reads what each manifest has at the same places.
func head(s string) Manifest {
	var m Manifest
	m.Version = word.Number(s, 0)
	m.Base = word.Number(s, baseAt)
	m.PatchSize = word.Byte(s, patchAt)
	m.ImageSize = word.Byte(s, imageAt)
	m.ImageSum = word.Number(s, imageSumAt)
	return m
}

// withExample reads the example at a place of a text into a manifest, and tells the place behind it; false if there is none.
func withExample(m Manifest, s string, at int) (Manifest, int, bool) {
	asked := word.Byte(s, at)
	answered := word.Byte(s, at+1)
	if asked > maxExample || answered > maxExample {
		return Manifest{}, 0, false
	}
	at += 2
	m.example = true
	m.question = word.Padded(s, at, asked)
	at += asked
	m.answer = word.Padded(s, at, answered)
	return m, at + answered, true
}

// Chunks is how many chunks the patch has.
func (m Manifest) Chunks() int {
	return flash.Needed(m.PatchSize)
}

// Tells tells whether a text is the chunk of a number.
func (m Manifest) Tells(chunk int, text string) bool {
	if chunk < 0 || chunk >= len(m.chunkSums) || len(text) != m.chunkSize(chunk) {
		return false
	}
	return sum.Of(text) == m.chunkSums[chunk]
}

// chunkSize is how many bytes a chunk has: the last one has what the others leave.
func (m Manifest) chunkSize(chunk int) int {
	left := m.PatchSize - chunk*api.PageSize
	if left > api.PageSize {
		return api.PageSize
	}
	return left
}

// Passed tells whether an image answers the example, if there is one.
func (m Manifest) Passed(image string) bool {
	if !m.example {
		return true
	}
	s, err := net.Answer(image, m.question)
	return err == api.OK && s == m.answer
}
