// Package delta: patches, by which some bytes come out of others.
package delta

import "slots/word"

// What a step of a patch gives.
const (
	copied  = 0 // bytes of the base
	own     = 1 // bytes of its own
	filled  = 2 // one byte of its own, again and again
	changed = 3 // bytes of the base, to each of which one of its own is added
)

// step is a step of a patch: what it gives, the place in the base, how many bytes, and its own bytes.
type step struct {
	what, at, count int
	bytes           string
}

// Apply is what comes out of a base by a patch; false if it is no patch of this base, or not just n bytes come out.
func Apply(base, patch string, n int) (string, bool) {
	// Measured ahead, a patch that gives far too much does not fill the memory first.
	size, ok := measure(base, patch)
	if !ok || size != n {
		return "", false
	}
	var out []byte
	for i := 0; i < len(patch); {
		d, next, there := read(patch, i)
		if !there {
			return "", false
		}
		out = append(out, d.gives(base)...)
		i = next
	}
	return string(out), true
}

// measure is how many bytes come out of a base by a patch; false if it is no patch of this base.
func measure(base, patch string) (int, bool) {
	size := 0
	for i := 0; i < len(patch); {
		d, next, there := read(patch, i)
		if !there || !d.fits(base) {
			return 0, false
		}
		size += d.count
		i = next
	}
	return size, true
}

// read takes the step at a place of a patch, and tells the place behind it; false if there is none.
func read(patch string, i int) (step, int, bool) {
	d := step{what: word.Byte(patch, i)}
	next := i + 1
	if d.what == copied || d.what == changed {
		d.at = word.Byte(patch, next)
		next++
	}
	d.count = word.Byte(patch, next)
	next++
	size := 0
	switch d.what {
	case copied:
	case own, changed:
		size = d.count
	case filled:
		size = 1
	default:
		return step{}, 0, false
	}
	// Where the place or the count is missing next lies beyond the patch, so no part is there, be it of no bytes.
	s, ok := word.Part(patch, next, size)
	if !ok {
		return step{}, 0, false
	}
	d.bytes = s
	return d, next + size, true
}

// fits tells whether a step does not reach beyond the base.
func (d step) fits(base string) bool {
	if d.what == copied || d.what == changed {
		return d.at+d.count <= len(base)
	}
	return true
}

// gives is what comes out of a step that fits.
func (d step) gives(base string) string {
	switch d.what {
	case own:
		return d.bytes
	case filled:
		return repeated(d.bytes, d.count)
	}
	s, _ := word.Part(base, d.at, d.count)
	if d.what == changed {
		return added(s, d.bytes)
	}
	return s
}

// repeated is a text n times.
func repeated(s string, n int) string {
	var b []byte
	for i := 0; i < n; i++ {
		b = append(b, s...)
	}
	return string(b)
}

// added is the bytes of a text, to each of which the one at its place in another is added, modulo 256.
func added(s, more string) string {
	var b []byte
	for i := 0; i < len(s); i++ {
		n := int(s[i]) + word.Byte(more, i)
		b = append(b, byte(n%256))
	}
	return string(b)
}

// Between is a patch by which a text of at most 255 bytes comes out of a base.
// A copy of what is alike in front costs a step more: it is taken where it makes the patch shorter.
func Between(base, now string) string {
	n := alike(base, now)
	rest, _ := word.Part(now, n, len(now)-n)
	short := copying(n) + giving(rest)
	plain := giving(now)
	if len(short) < len(plain) {
		return short
	}
	return plain
}

// alike is with how many bytes two texts begin alike.
func alike(a, b string) int {
	n := 0
	for n < len(a) && n < len(b) && a[n] == b[n] {
		n++
	}
	return n
}

// copying is the step that gives the first n bytes of the base; none if there are none.
func copying(n int) string {
	if n == 0 {
		return ""
	}
	return string([]byte{copied, 0, byte(n)})
}

// giving is the step that gives some bytes; none if there are none.
func giving(s string) string {
	if s == "" {
		return ""
	}
	return string([]byte{own, byte(len(s))}) + s
}
