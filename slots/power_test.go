package slots_test

import (
	"math/rand"
	"slices"
	"testing"

	"slots/api"
)

func TestP12Told(t *testing.T) {
	p := paired(t, "key", double, 7)
	m := toSquare(9, 7).manifest("key")
	if r := p.play(api.Event{Kind: api.Offer, Text: m, Cut: 3, Torn: 0}); r != (api.Reply{Err: api.ErrCut, Ask: -1}) {
		t.Fatalf("P12: %+v", r)
	}
	p.shows(api.Status{})
	p.holds(2, m[:16])
	p.holds(3, m[16:])
	p.ok(api.Boot, 0, "", 7)
	p.shows(api.Status{On: true, Version: 7, Kept: 7})
	p.ok(api.Offer, 0, m, 7)
	p.shows(api.Status{On: true, Phase: 1, Version: 7, Kept: 7, Missing: 3})
	p.holds(1, raw(2, 0, 1, 0, 8, 0, 0, 7, 0, 0, 0, 0, 0, 0, 0, 2))
}

// TestP12Torn: as many bytes of a page as are told, the others as they were.
func TestP12Torn(t *testing.T) {
	m := toSquare(9, 7).manifest("key")
	for _, torn := range []int{-1 << 63, -1, 0, 1, 2, 8, 15, 16, 17, 1<<63 - 1} {
		n := max(0, min(16, torn))
		p := paired(t, "key", double, 7)
		p.play(api.Event{Kind: api.Offer, Text: m, Cut: 0, Torn: torn})
		p.holds(2, m[:n])
		p.holds(3, "")
		p.fails(api.Tick, 0, "", api.ErrOff)
		p.ok(api.Boot, 0, "", 7)
		p.play(api.Event{Kind: api.Offer, Text: m, Cut: 3, Torn: torn})
		p.fails(api.Off, 0, "", api.ErrOff)
		p.ok(api.Boot, 0, "", 7)
		phase := 0
		if n == 16 {
			phase = 1
		}
		if s := p.x.Status(); s.Phase != phase {
			t.Errorf("P12: with %d bytes of the record written the phase is %d", n, s.Phase)
		}
	}
}

// writes: how many pages an event writes behind some others, by the second telling.
func writes(first string, past []api.Event, e api.Event) int {
	m := modelOf("key", first, 7)
	for _, q := range past {
		m.do(q)
	}
	e.Cut = 100
	m.do(e)
	return 100 - m.left
}

// story: events that write pages of each kind.
func story() []api.Event {
	u, v := toSquare(9, 7), update{version: 11, base: 9, patch: plainly(large), image: large, example: raw(0)}
	bad := update{version: 10, base: 9, patch: raw(9), image: large, example: raw(0)}
	offer := event(api.Offer, 0, bad.manifest("key"))
	chunk := event(api.Chunk, 0, bad.patch)
	return slices.Concat(
		[]api.Event{event(api.Offer, 0, v.manifest("key")), event(api.Offer, 0, v.manifest("kez")), event(api.Infer, 0, words(1))},
		u.fetched("key"), times(4, off, boot),
		u.fetched("key"), times(5, tick),
		u.fetched("key"), []api.Event{confirm},
		[]api.Event{offer, offer, chunk, chunk, tick},
		v.fetched("key"), []api.Event{confirm})
}

// TestP12EachPage: at each page of each event of a story the power fails; then the story goes on from there.
func TestP12EachPage(t *testing.T) {
	l := story()
	total := 0
	for i, e := range l {
		n := writes(double, l[:i], e)
		total += n
		for cut := -1; cut <= n+1; cut++ {
			for torn := -1; torn <= 17; torn++ {
				p := paired(t, "key", double, 7)
				for _, q := range l[:i] {
					p.play(q)
				}
				e.Cut, e.Torn = cut, torn
				r := p.play(e)
				if (r.Err == api.ErrCut) != (cut >= 0 && cut < n) {
					t.Fatalf("P12: %+v, which writes %d pages: %+v", e, n, r)
				}
				p.play(api.Event{Kind: api.Boot, Cut: -1})
				for _, q := range l[i:] {
					p.play(q)
				}
			}
		}
	}
	if total < 60 {
		t.Errorf("the story writes %d pages", total)
	}
}

// TestP12Numbers: at a record of each number the power fails, and fails again.
func TestP12Numbers(t *testing.T) {
	r := rand.New(rand.NewSource(12))
	p := paired(t, "key", double, 7)
	m := toSquare(9, 7).manifest("key")
	for range 2000 {
		p.play(api.Event{Kind: api.Offer, Text: m, Cut: r.Intn(7) - 1, Torn: r.Intn(19) - 1})
		p.play(api.Event{Kind: api.Boot, Cut: -1})
	}
}

// TestP12AnyEvents: long runs of events, while the power fails now and then.
func TestP12AnyEvents(t *testing.T) {
	for seed := range int64(60) {
		r := rand.New(rand.NewSource(1000 + seed))
		p := paired(t, words(r.Intn(65536), r.Intn(65536))[:r.Intn(5)], anImage(r), []int{0, 7, 254, 32766, 65500}[r.Intn(5)])
		var u update
		for range 1000 {
			e := anEvent(r, p.m.seen(), &u)
			if r.Intn(5) == 0 {
				e.Cut, e.Torn = r.Intn(8), r.Intn(20)-2
			}
			p.play(e)
		}
	}
}
