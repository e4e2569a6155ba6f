package slots_test

import (
	"slices"
	"testing"

	"slots/api"
)

// Numbers at and about the edges of Torn.
var torns = []int{-1 << 63, -1, 0, 1, 8, 15, 16, 17, 1<<63 - 1}

// moment: an event of a device that began with version 7, the double, behind some others, and the pages that it writes, in their order.
type moment struct {
	name  string
	ahead []api.Event
	e     api.Event
	pages []int
}

// Some events, and updates of version 7.
var (
	tick     = event(api.Tick, 0, "")
	confirm  = event(api.Confirm, 0, "")
	off      = event(api.Off, 0, "")
	boot     = event(api.Boot, 0, "")
	toTriple = update{version: 10, base: 9, patch: plainly(triple), image: triple, example: raw(0)} // of the square
	toLarge  = update{version: 9, base: 7, patch: plainly(large), image: large, example: raw(0)}
)

// given: all but the last tick of an update's events.
func given(u update) []api.Event {
	l := u.fetched("key")
	return l[:len(l)-1]
}

// times: some events again and again.
func times(n int, l ...api.Event) []api.Event { return slices.Repeat(l, n) }

// moments: each event that writes pages, and each that writes none.
func moments() []moment {
	u := toSquare(9, 7)
	offer, chunk := u.fetched("key")[0], u.fetched("key")[2]
	cut := offer
	cut.Cut = 3
	trial := u.fetched("key")
	kept := append(u.fetched("key"), confirm)
	l := []moment{
		{"an offer", nil, offer, []int{2, 3, 4, 1}},
		{"an offer of what stands in its pages", []api.Event{cut, boot}, offer, []int{2, 3, 4, 1}},
		{"an offer while the same is fetched", []api.Event{offer}, offer, []int{0, 2, 3, 4, 1}},
		{"an offer while another is fetched", toLarge.fetched("key")[:2], offer, []int{1, 2, 3, 4, 0}},
		{"an offer behind an update", kept, toTriple.fetched("key")[0], []int{2, 3, 4, 1}},
		{"a chunk", []api.Event{offer}, chunk, []int{6, 0}},
		{"a chunk that stands in its page", []api.Event{offer, chunk, offer}, chunk, []int{6, 1}},
		{"the last chunk", trial[:3], trial[3], []int{7, 0}},
		{"an image of two pages", given(u), tick, []int{17, 18, 1}},
		{"an image of five pages", given(toLarge), tick, []int{17, 18, 19, 20, 21, 0}},
		{"an image into slot 0", slices.Concat(kept, given(toTriple)), tick, []int{11, 1}},
		{"an image that stands in its pages", slices.Concat(trial, times(5, tick), given(u)), tick, []int{17, 18, 1}},
		{"Boot on trial", slices.Concat(trial, times(1, off)), boot, []int{0}},
		{"Boot with one try left", slices.Concat(trial, times(2, off, boot), times(1, off)), boot, []int{0}},
		{"Boot with no tries left", slices.Concat(trial, times(3, off, boot), times(1, off)), boot, []int{1}},
		{"the window's end", slices.Concat(trial, times(4, tick)), tick, []int{0}},
		{"Confirm", trial, confirm, []int{0}},
		{"Confirm of slot 0", slices.Concat(kept, toTriple.fetched("key")), confirm, []int{0}},
	}
	return slices.Concat(l, refusals(), stills())
}

// refusals: ticks by which an image is not installed.
func refusals() []moment {
	var l []moment
	for _, c := range []struct {
		name string
		u    update
	}{
		{"ErrPatch", update{patch: raw(9), image: triple, example: raw(0)}},
		{"ErrSum", update{patch: plainly(triple), image: square[:11], example: raw(0)}},
		{"ErrImage", update{patch: plainly("no image"), image: "no image", example: raw(0)}},
		{"ErrTest", update{patch: plainly(triple), image: triple, example: example(words(5), words(16))}},
	} {
		c.u.version, c.u.base = 9, 7
		l = append(l, moment{c.name, given(c.u), tick, []int{1}})
	}
	return l
}

// stills: events that write no page, whatever they answer.
func stills() []moment {
	u := toSquare(9, 7)
	trial := u.fetched("key")
	fetching, chunk := trial[:1], trial[2]
	return []moment{
		{"Off", nil, off, nil},
		{"Off on trial", trial, off, nil},
		{"Boot", []api.Event{off}, boot, nil},
		{"Boot while fetching", []api.Event{trial[0], off}, boot, nil},
		{"Boot of a device that is on", trial, boot, nil},
		{"Tick", nil, tick, nil},
		{"Tick that asks", fetching, tick, nil},
		{"Tick on trial", trial, tick, nil},
		{"Tick ahead of the window's end", slices.Concat(trial, times(3, tick)), tick, nil},
		{"Tick of a device that is off", slices.Concat(given(u), times(1, off)), tick, nil},
		{"Infer", nil, event(api.Infer, 0, words(5)), nil},
		{"Infer on trial", trial, event(api.Infer, 0, words(5)), nil},
		{"Infer of nothing", nil, event(api.Infer, 0, ""), nil},
		{"an offer that is none", nil, event(api.Offer, 0, u.manifest("kez")), nil},
		{"an offer of an old version", fetching, event(api.Offer, 0, toSquare(7, 7).manifest("key")), nil},
		{"an offer on trial", trial, event(api.Offer, 0, toSquare(10, 7).manifest("key")), nil},
		{"a chunk that is there", trial[:3], chunk, nil},
		{"another chunk", fetching, event(api.Chunk, 0, chunk.Text), nil},
		{"a chunk of nothing", nil, chunk, nil},
		{"Confirm of nothing", fetching, confirm, nil},
		{"no kind", nil, event(0, 0, ""), nil},
	}
}

// flashOf: all pages.
func flashOf(g *guard) [23]string {
	var l [23]string
	for i := range l {
		l[i] = g.x.Page(i)
	}
	return l
}

// at: a device at a moment.
func (c moment) at(t *testing.T) *guard {
	t.Helper()
	g := guarded(t, "key", double, 7)
	g.plays(c.ahead)
	return g
}

// cuts: numbers at and about the edges of Cut.
func (c moment) cuts() []int {
	n := len(c.pages)
	l := []int{-1 << 63, -1, n, n + 1, 23, 1<<63 - 1}
	for i := range n {
		l = append(l, i)
	}
	return l
}

// torn: the pages that are to be if the power fails behind some of those that are written.
func (c moment) torn(before, after [23]string, cut, torn int) [23]string {
	for i, page := range c.pages {
		n := 16
		if i == cut {
			n = max(0, min(16, torn))
		}
		if i <= cut {
			before[page] = after[page][:n] + before[page][n:]
		}
	}
	return before
}

// TestP12Order: each event with each cut; then Boot, and the whole change again.
func TestP12Order(t *testing.T) {
	for _, c := range moments() {
		g := c.at(t)
		before := flashOf(g)
		answer := g.play(c.e)
		after := flashOf(g)
		status := g.x.Status()
		if s := c.torn(before, after, 23, 0); s != after {
			t.Fatalf("P12: %s: %+v writes other pages than %v: %q", c.name, c.e, c.pages, after)
		}
		for _, cut := range c.cuts() {
			for _, torn := range torns {
				g := c.at(t)
				want, r, s := after, answer, status
				if cut >= 0 && cut < len(c.pages) {
					want, r, s = c.torn(before, after, cut, torn), api.Reply{Err: api.ErrCut, Ask: -1}, api.Status{}
				}
				e := c.e
				e.Cut, e.Torn = cut, torn
				if got := g.play(e); got != r || g.x.Status() != s {
					t.Fatalf("P12: %s: %+v: %+v and %+v, want %+v and %+v", c.name, e, got, g.x.Status(), r, s)
				}
				if got := flashOf(g); got != want {
					t.Fatalf("P12: %s: %+v: the pages %q, want %q", c.name, e, got, want)
				}
				again(g)
			}
		}
	}
}

// again: Boot if the device is off, and an update from what is kept.
func again(g *guard) {
	g.t.Helper()
	if !g.x.Status().On {
		if r := g.play(boot); r.Err != api.OK || !g.x.Status().On {
			g.t.Fatalf("P13: Boot: %+v", r)
		}
	}
	g.brings(above(g.keeps))
}

// above: an update from what is kept, of three chunks and with an example.
func above(k known) update {
	u := toSquare(k.version+1, k.version)
	u.example = example(words(-12), words(144))
	return u
}

// TestP12Memory: what the device has in mind is gone when the power fails, but not when an event is refused.
func TestP12Memory(t *testing.T) {
	u := toSquare(9, 7)
	p := paired(t, "key", double, 7)
	p.offered(u)
	for i := 1; i <= 5; i++ {
		p.asks(asked(i, 0))
	}
	p.play(api.Event{Kind: api.Chunk, N: 1, Text: u.chunks()[1], Cut: 1, Torn: 15})
	p.ok(api.Boot, 0, "", 7)
	for i := 1; i <= 5; i++ {
		p.asks(asked(i, 0))
	}
	p.play(api.Event{Kind: api.Chunk, N: 0, Text: u.chunks()[0], Cut: 1, Torn: 16})
	p.ok(api.Boot, 0, "", 7)
	p.asks(1)
	p.goes(api.Chunk, 1, u.chunks()[1], api.Reply{Version: 7, Ask: -1})
	p.goes(api.Chunk, 2, u.chunks()[2], api.Reply{Version: 7, Ask: -1})
	p.ok(api.Tick, 0, "", 9)
	for range 4 {
		p.ok(api.Tick, 0, "", 9)
	}
	p.gives(api.Event{Kind: api.Tick, Cut: 0, Torn: 15}, api.Reply{Err: api.ErrCut, Ask: -1})
	p.gives(api.Event{Kind: api.Boot, Cut: 0, Torn: 15}, api.Reply{Err: api.ErrCut, Ask: -1})
	p.ok(api.Boot, 0, "", 9)
	p.shows(api.Status{On: true, Phase: 2, Slot: 1, Version: 9, Kept: 7, Tries: 2})
	for range 4 {
		p.ok(api.Tick, 0, "", 9)
	}
	p.gives(api.Event{Kind: api.Tick, Cut: 0, Torn: 16}, api.Reply{Err: api.ErrCut, Ask: -1})
	p.ok(api.Boot, 0, "", 7)
	p.shows(api.Status{On: true, Version: 7, Kept: 7})
}
