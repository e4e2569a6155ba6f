package slots_test

import (
	"strings"
	"testing"

	"slots/api"
	"slots/slots"
)

// installs: an update is offered to a new device, with some words for the sum of its image, and installed; the answer.
func installs(t *testing.T, first string, u update, sum string) (*pair, api.Reply) {
	t.Helper()
	p := paired(t, "key", first, 7)
	m := u.manifest("key")
	p.ok(api.Offer, 0, sealed("key", m[:6]+sum+m[8:len(m)-2]), 7)
	for i, c := range u.chunks() {
		p.ok(api.Chunk, i, c, 7)
	}
	return p, p.play(api.Event{Kind: api.Tick, Cut: -1})
}

func TestP17Told(t *testing.T) {
	p := paired(t, "key", double, 7)
	u := toSquare(9, 7)
	u.example = example(words(5), words(25))
	p.given(u)
	p.holds(0, raw(5, 0, 1, 0, 8, 0, 0, 7, 0, 0, 7, 0, 0, 0, 0, 5))
	p.ok(api.Tick, 0, "", 9)
	p.holds(1, raw(6, 0, 2, 3, 8, 32, 0, 7, 0, 9, 0, 0, 0, 0, 0, 6))
	p.holds(17, square[:16])
	p.holds(18, square[16:])
	p.holds(19, "")
	p.holds(11, double)
	p.goes(api.Infer, 0, words(-12), api.Reply{Version: 9, Text: words(144), Ask: -1})
}

func TestP17Refused(t *testing.T) {
	two := "M" + raw(2, 1, 1, 1, 0, 1, 2)
	none := strings.Repeat("x", 96)
	for _, c := range []struct {
		name, patch, image, example string
		sum                         int // 0: the right one
		want                        api.Errno
	}{
		{"no patch", raw(9), triple, raw(0), 0, api.ErrPatch},
		{"a step that is cut short", raw(0, 0), triple, raw(0), 0, api.ErrPatch},
		{"a patch beyond the base", raw(0, 0, 9), double + "\x00", raw(0), 0, api.ErrPatch},
		{"no bytes beyond the base", plainly(triple) + raw(0, 9, 0), triple, raw(0), 0, api.ErrPatch},
		{"a longer image told", plainly(triple), triple + "x", raw(0), 0, api.ErrPatch},
		{"a shorter image told", plainly(triple), triple[:10], raw(0), 0, api.ErrPatch},
		{"no bytes", raw(1, 0), "x", raw(0), 0, api.ErrPatch},
		{"too many bytes", raw(2, 255, 1, 2, 255, 1), none, raw(0), 0, api.ErrPatch},
		{"no patch ahead of all", raw(9), none, example("x", "y"), 1, api.ErrPatch},
		{"another sum", plainly(triple), triple, raw(0), 1, api.ErrSum},
		{"another image", plainly(triple), square[:11], raw(0), 0, api.ErrSum},
		{"another sum ahead of no image and a wrong example", plainly("no image"), "no image", example("x", "y"), 1, api.ErrSum},
		{"no image", plainly("no image"), "no image", raw(0), 0, api.ErrImage},
		{"an image and more", plainly(triple + "\x00"), triple + "\x00", raw(0), 0, api.ErrImage},
		{"an image of which a value is an operand of itself", raw(0, 0, 6, 1, 2, 1, 1), double[:6] + raw(1, 1), raw(0), 0, api.ErrImage},
		{"96 bytes that are no image", raw(2, 96, 'x'), none, raw(0), 0, api.ErrImage},
		{"no image ahead of a wrong example", plainly("no image"), "no image", example("x", "y"), 0, api.ErrImage},
		{"another answer", plainly(triple), triple, example(words(5), words(16)), 0, api.ErrTest},
		{"half an answer", plainly(triple), triple, example(words(5), raw(0)), 0, api.ErrTest},
		{"no answer", plainly(triple), triple, example(words(5), ""), 0, api.ErrTest},
		{"an answer and more", plainly(triple), triple, example(words(5), words(15, 0)), 0, api.ErrTest},
		{"no question", plainly(triple), triple, example("", words(15)), 0, api.ErrTest},
		{"no question and no answer", plainly(triple), triple, example("", ""), 0, api.ErrTest},
		{"half a question", plainly(triple), triple, example("\x00", words(15)), 0, api.ErrTest},
		{"too long a question, and no answer", plainly(triple), triple, example(words(5, 0), ""), 0, api.ErrTest},
		{"too short a question, and no answer", plainly(two), two, example(words(5), ""), 0, api.ErrTest},
		{"too long a question", plainly(triple), triple, example(words(5, 0), words(15)), 0, api.ErrTest},
	} {
		u := update{version: 9, base: 7, patch: c.patch, image: c.image, example: c.example}
		sum := words(slots.Sum(c.image) ^ c.sum)
		p, r := installs(t, double, u, sum)
		if r != (api.Reply{Err: c.want, Ask: -1}) {
			t.Errorf("P17: %s: %+v, want the error %d", c.name, r, c.want)
			continue
		}
		chunks := len(u.chunks())
		number := 3 + chunks
		p.holds(1-number%2, raw(number, 0, 0, 0, 8, 0, 0, 7, 0, 0, 0, 0, 0, 0, 0, number))
		p.shows(api.Status{On: true, Version: 7, Kept: 7})
		p.holds(17, "")
		p.holds(5, u.chunks()[0])
		p.ok(api.Tick, 0, "", 7)
		p.fails(api.Chunk, 0, u.chunks()[0], api.ErrIdle)
		p.again(7)
		p.kept(toSquare(8, 7))
	}
}

func TestP17Taken(t *testing.T) {
	four := "M" + raw(4, 0, 4, 3, 2, 1, 0)
	const one = "M\x01\x00\x01\x00" // the shortest image
	for _, c := range []struct {
		name, first, patch, image, example string
	}{
		{"an example", double, plainly(triple), triple, example(words(5), words(15))},
		{"the longest example", double, plainly(four), four, example(words(1, -2, 3, -4), words(-4, 3, -2, 1))},
		{"the shortest image", double, plainly(one), one, example(words(-5), words(-5))},
		{"the longest image", double, plainly(large), large, example(words(9), words(18, 18, 18, 18))},
		{"the longest patch", double, plainly(large) + strings.Repeat(raw(1, 0), 7), large, raw(0)},
		{"the same image", large, raw(0, 0, 80), large, raw(0)},
		{"the shortest patch of a longer image", large, raw(0, 0, 80), large, example(words(9), words(18, 18, 18, 18))},
		{"bytes added", double, raw(3, 0, 8, 0, 0, 0, 0, 255, 0, 0, 0), double[:4] + "\x00" + double[5:], raw(0)},
		{"a filling", double, "\x01\x04M\x01\x02\x01" + raw(2, 7, 0), "M\x01\x02\x01" + strings.Repeat("\x00", 7), example(words(5), words(5))},
		{"a patch that ends with 0", double, plainly(one), one, raw(0)},
		{"a Diff", large, diff(large, square), square, raw(0)},
		{"a Diff to a longer one", square, diff(square, large), large, raw(0)},
	} {
		u := update{version: 9, base: 7, patch: c.patch, image: c.image, example: c.example}
		p, r := installs(t, c.first, u, words(slots.Sum(c.image)))
		if r != (api.Reply{Version: 9, Ask: -1}) {
			t.Errorf("P17: %s: %+v", c.name, r)
			continue
		}
		p.shows(api.Status{On: true, Phase: 2, Slot: 1, Version: 9, Kept: 7, Tries: 3})
		flash := ""
		for i := range 6 {
			flash += p.x.Page(17 + i)
		}
		if flash != c.image+strings.Repeat("\x00", 96-len(c.image)) {
			t.Errorf("P17: %s: slot 1 holds %q", c.name, flash)
		}
		p.ok(api.Confirm, 0, "", 9)
	}
}

// diff: the patch that Diff gives.
func diff(base, now string) string {
	s, _ := slots.Diff(base, now)
	return s
}

// TestP17Pages: no more pages are written than the image needs; behind it, in its last page, stands 0.
func TestP17Pages(t *testing.T) {
	p := paired(t, "key", double, 7)
	u := update{version: 9, base: 7, patch: plainly(large), image: large, example: raw(0)}
	p.tried(u)
	for range 5 {
		p.play(api.Event{Kind: api.Tick, Cut: -1})
	}
	v := update{version: 8, base: 7, patch: plainly(triple), image: triple, example: raw(0)}
	p.tried(v)
	p.holds(17, triple)
	for i := 1; i < 5; i++ {
		p.holds(17+i, large[16*i:16*i+16])
	}
	p.holds(22, "")
	p.ok(api.Confirm, 0, "", 8)
	p.kept(update{version: 9, base: 8, patch: plainly(square), image: square, example: raw(0)})
	p.holds(11, square[:16])
	p.holds(12, square[16:])
	p.holds(13, "")
	p.holds(17, triple)
}

// TestP17Base: the base is the kept image, whatever stands in the other slot.
func TestP17Base(t *testing.T) {
	p := paired(t, "key", double, 7)
	p.tried(toSquare(9, 7))
	for range 5 {
		p.play(api.Event{Kind: api.Tick, Cut: -1})
	}
	u := update{version: 8, base: 7, patch: raw(0, 0, 4, 1, 1, 2, 0, 5, 3), image: double[:4] + "\x02" + double[5:], example: example(words(5), words(0))}
	p.kept(u)
	p.goes(api.Infer, 0, words(5), api.Reply{Version: 8, Text: words(0), Ask: -1})
	p.given(update{version: 9, base: 8, patch: raw(0, 0, 32), image: square, example: raw(0)})
	p.goes(api.Tick, 0, "", api.Reply{Err: api.ErrPatch, Ask: -1})
	p.kept(update{version: 9, base: 8, patch: raw(0, 0, 8), image: u.image, example: raw(0)})
	p.shows(api.Status{Slot: 0, On: true, Version: 9, Kept: 9})
	p.goes(api.Infer, 0, words(5), api.Reply{Version: 9, Text: words(0), Ask: -1})
}

// TestP17Neighbours: patches one byte off a good one; what is asked is told by the second telling.
func TestP17Neighbours(t *testing.T) {
	u := update{version: 9, base: 7, patch: raw(0, 0, 5, 1, 2, 0, 0, 3, 7, 1, 0), image: double, example: example(words(5), words(10))}
	for _, s := range neighbours(u.patch) {
		if s != "" && len(s) <= 96 {
			v := u
			v.patch = s
			installs(t, double, v, words(slots.Sum(double)))
		}
	}
	for _, s := range neighbours(double) {
		if s != "" && len(s) <= 94 {
			v := u
			v.patch, v.image = plainly(s), s
			installs(t, double, v, words(slots.Sum(s)))
			v.example = raw(0)
			installs(t, double, v, words(slots.Sum(s)))
		}
	}
}

// TestP17Many: more updates than records have numbers.
func TestP17Many(t *testing.T) {
	p := paired(t, "key", double, 0)
	images := []string{double, triple, square, large}
	for v := 1; v <= 300; v++ {
		now, next := images[(v-1)%4], images[v%4]
		u := update{version: v, base: v - 1, patch: diff(now, next), image: next, example: raw(0)}
		p.kept(u)
		p.shows(api.Status{On: true, Slot: v % 2, Version: v, Kept: v})
		p.again(v)
	}
}

// TestP17EachNumber: records of each number are followed by the next one, from either page, also over 255.
func TestP17EachNumber(t *testing.T) {
	p := paired(t, "key", double, 7)
	p.offered(toSquare(9, 7))
	number := 2
	for range 600 {
		p.holds(1-number%2, raw(number, 0, 1, 0, 8, 0, 0, 7, 0, 0, 0, 0, 0, 0, 0, number))
		p.again(7)
		p.offered(toSquare(9, 7))
		number = (number + 2) % 256
		if number%3 == 0 {
			p.ok(api.Chunk, 0, toSquare(9, 7).chunks()[0], 7)
			p.again(7)
			p.offered(toSquare(9, 7))
			number = (number + 3) % 256
		}
	}
}
