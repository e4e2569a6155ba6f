// Package record: what a device knows of its slots, in one page of its flash.
package record

import (
	"slots/api"
	"slots/word"
)

const (
	turn     = 256 // numbers of records begin anew here
	lastByte = api.PageSize - 1

	keptAt    = 1
	phaseAt   = 2
	triesAt   = 3
	sizeAt    = 4 // of slot 0; slot 1 follows
	versionAt = 6 // of slot 0; slot 1 follows
	thereAt   = 10
)

// Slot is what is known of the image in a slot: how many bytes it has, and its version.
type Slot struct {
	Size, Version int
}

// Record is a record, and the page in which it stands.
type Record struct {
	Page   int
	number int
	Kept   int // the kept slot
	Phase  int
	Tries  int
	first  Slot
	second Slot
	there  int // the bits of the chunks that are there
}

// First is the record of a new device, of which the image is in slot 0.
func First(image Slot) Record {
	return Record{number: 1, first: image}
}

// Standing is the record that counts, of the two that stand in pages 0 and 1.
func Standing(first, second string) Record {
	if follows(first, second) {
		return read(1, second)
	}
	return read(0, first)
}

// follows tells whether the second page has the record that counts: it is whole, and the first one is torn or the one ahead of it.
func follows(first, second string) bool {
	if !whole(second) {
		return false
	}
	if !whole(first) {
		return true
	}
	ahead := word.Byte(first, 0)
	number := word.Byte(second, 0)
	return (ahead+1)%turn == number
}

// whole tells whether all of a page was written: its number comes first and last.
func whole(page string) bool {
	return word.Byte(page, 0) == word.Byte(page, lastByte)
}

// read takes a record from the text of its page.
func read(page int, s string) Record {
	return Record{
		Page:   page,
		number: word.Byte(s, 0),
		Kept:   word.Byte(s, keptAt),
		Phase:  word.Byte(s, phaseAt),
		Tries:  word.Byte(s, triesAt),
		first:  Slot{Size: word.Byte(s, sizeAt), Version: word.Number(s, versionAt)},
		second: Slot{Size: word.Byte(s, sizeAt+1), Version: word.Number(s, versionAt+word.Size)},
		there:  word.Byte(s, thereAt),
	}
}

// Text is the page of a record.
func (r Record) Text() string {
	head := string([]byte{byte(r.number), byte(r.Kept), byte(r.Phase), byte(r.Tries), byte(r.first.Size), byte(r.second.Size)})
	versions := word.Text(r.first.Version) + word.Text(r.second.Version)
	tail := string([]byte{byte(r.there), 0, 0, 0, 0, byte(r.number)})
	return head + versions + tail
}

// Slot is what is known of the image in a slot.
func (r Record) Slot(i int) Slot {
	if i == 0 {
		return r.first
	}
	return r.second
}

// Other is the slot that is not kept.
func (r Record) Other() int {
	return 1 - r.Kept
}

// Served is the slot of which the image is served.
func (r Record) Served() int {
	if r.Phase == api.Trial {
		return r.Other()
	}
	return r.Kept
}

// Has tells whether a chunk is there.
func (r Record) Has(chunk int) bool {
	return r.there&bit(chunk) != 0
}

// Missing is how many of the first n chunks are not there.
func (r Record) Missing(n int) int {
	count := 0
	for i := 0; i < n; i++ {
		if !r.Has(i) {
			count++
		}
	}
	return count
}

// Wanted is the least of the first n chunks that is not there; -1 if all are.
func (r Record) Wanted(n int) int {
	for i := 0; i < n; i++ {
		if !r.Has(i) {
			return i
		}
	}
	return -1
}

// bit is the worth of a chunk's bit.
func bit(chunk int) int {
	return 1 << uint(chunk)
}
