// Package flash: the pages of a device, which outlive a failure of the power.
package flash

import (
	"slots/api"
	"slots/word"
)

const size = api.Pages * api.PageSize

// Flash is all pages, one behind the other.
type Flash struct {
	bytes [size]byte
}

// Write is a page that is to be written, and what is to stand in it from its first byte on; 0 stands behind that.
type Write struct {
	Page int
	Text string
}

// Needed is how many pages are wanted for n bytes.
func Needed(n int) int {
	return (n + api.PageSize - 1) / api.PageSize
}

// Spread is a text laid into n pages, from a first one on.
func Spread(first, n int, text string) []Write {
	var l []Write
	for i := 0; i < n; i++ {
		s := word.Padded(text, i*api.PageSize, api.PageSize)
		l = append(l, Write{Page: first + i, Text: s})
	}
	return l
}

// Page is the bytes of a page; empty if there is no such page.
func (f *Flash) Page(i int) string {
	return f.Text(i, api.PageSize)
}

// Text is n bytes, from the first one of a page on; empty if there are not so many.
func (f *Flash) Text(page, n int) string {
	if page < 0 || page >= api.Pages {
		return ""
	}
	s := string(f.bytes[:])
	part, _ := word.Part(s, page*api.PageSize, n)
	return part
}

// WriteAll writes pages one after the other; false if the power fails, which it does behind cut of them, with the first bytes of the next one written.
func (f *Flash) WriteAll(l []Write, cut, torn int) bool {
	for i := 0; i < len(l); i++ {
		if i == cut {
			f.put(l[i], torn)
			return false
		}
		f.put(l[i], api.PageSize)
	}
	return true
}

// put writes the first n bytes of a page, all if n is above them.
func (f *Flash) put(w Write, n int) {
	if w.Page < 0 || w.Page >= api.Pages {
		return
	}
	for k := 0; k < n && k < api.PageSize; k++ {
		b := word.Byte(w.Text, k)
		f.bytes[w.Page*api.PageSize+k] = byte(b)
	}
}
