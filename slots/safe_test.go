package slots_test

import (
	"math/rand"
	"testing"

	"slots/api"
)

// TestP19Told: the power fails at each step of an update, and it comes to be kept.
func TestP19Told(t *testing.T) {
	p := paired(t, "key", double, 7)
	u := toSquare(9, 7)
	fails := func(kind, n int, text string, cut, torn, version int) {
		t.Helper()
		p.gives(api.Event{Kind: kind, N: n, Text: text, Cut: cut, Torn: torn}, api.Reply{Err: api.ErrCut, Ask: -1})
		p.ok(api.Boot, 0, "", version)
	}
	fails(api.Offer, 0, u.manifest("key"), 1, 5, 7)
	p.shows(api.Status{On: true, Version: 7, Kept: 7})
	fails(api.Offer, 0, u.manifest("key"), 3, 16, 7)
	p.shows(api.Status{On: true, Phase: 1, Version: 7, Kept: 7, Missing: 3})
	fails(api.Chunk, 2, u.chunks()[2], 0, 16, 7)
	p.shows(api.Status{On: true, Phase: 1, Version: 7, Kept: 7, Missing: 3})
	fails(api.Chunk, 2, u.chunks()[2], 1, 16, 7)
	p.shows(api.Status{On: true, Phase: 1, Version: 7, Kept: 7, Missing: 2})
	p.ok(api.Chunk, 0, u.chunks()[0], 7)
	p.ok(api.Chunk, 1, u.chunks()[1], 7)
	for cut := range 3 {
		fails(api.Tick, 0, "", cut, 15, 7)
		p.shows(api.Status{On: true, Phase: 1, Version: 7, Kept: 7})
	}
	fails(api.Tick, 0, "", 2, 16, 9)
	p.shows(api.Status{On: true, Phase: 2, Slot: 1, Version: 9, Kept: 7, Tries: 2})
	fails(api.Confirm, 0, "", 0, 15, 9)
	p.shows(api.Status{On: true, Phase: 2, Slot: 1, Version: 9, Kept: 7, Tries: 1})
	p.ok(api.Confirm, 0, "", 9)
	p.shows(api.Status{On: true, Slot: 1, Version: 9, Kept: 9})
	p.goes(api.Infer, 0, words(-12), api.Reply{Version: 9, Text: words(144), Ask: -1})
}

// TestP19NotConfirmed: what nobody confirms is given up, wherever the power fails; it leaves the kept version as it is.
func TestP19NotConfirmed(t *testing.T) {
	for _, torn := range torns {
		p := paired(t, "key", double, 7)
		p.tried(toSquare(1000, 7))
		boots := 0
		for ; p.x.Status().Phase == api.Trial && boots < 9; boots++ {
			p.ok(api.Off, 0, "", 0)
			p.gives(api.Event{Kind: api.Boot, Cut: 0, Torn: torn}, api.Reply{Err: api.ErrCut, Ask: -1})
			p.play(boot)
		}
		// A try that is wholly written is gone, though the device did not come up.
		want := 4
		if torn >= 16 {
			want = 2
		}
		if boots != want {
			t.Errorf("P13: Torn %d: given up behind %d times Boot, want %d", torn, boots, want)
		}
		p.shows(api.Status{On: true, Version: 7, Kept: 7})
		p.fails(api.Confirm, 0, "", api.ErrIdle)
		p.kept(toSquare(8, 7))
	}
}

// TestP19EachPage: at each page that is written behind each beginning of a story the power fails; the update comes to be kept.
func TestP19EachPage(t *testing.T) {
	l := story()
	for i := range len(l) + 1 {
		for page := range 16 {
			for _, torn := range []int{0, 8, 16} {
				g := guarded(t, "key", double, 7)
				g.plays(l[:i])
				g.brings(above(g.keeps), outage{page, torn})
			}
		}
	}
}

// TestP19Twice: at each two pages of an update the power fails, in both directions between the slots.
func TestP19Twice(t *testing.T) {
	some := []int{0, 1, 7, 15, 16}
	for _, ahead := range [][]api.Event{nil, append(toLarge.fetched("key"), confirm)} {
		for first := range 15 {
			for second := range 16 {
				for i := range 25 {
					g := guarded(t, "key", double, 7)
					g.plays(ahead)
					g.brings(above(g.keeps), outage{first, some[i%5]}, outage{second, some[i/5]})
				}
			}
		}
	}
}

// TestP19Numbers: at records of each number the power fails at any byte.
func TestP19Numbers(t *testing.T) {
	r := rand.New(rand.NewSource(19))
	g := guarded(t, "key", double, 7)
	m := toSquare(9, 7).manifest("key")
	numbers := map[string]bool{}
	for range 6000 {
		if g.play(api.Event{Kind: api.Offer, Text: m, Cut: r.Intn(6), Torn: r.Intn(17)}).Err == api.ErrCut {
			g.play(boot)
		}
		numbers[g.record[:1]] = true
	}
	if len(numbers) != 256 {
		t.Errorf("records of %d numbers", len(numbers))
	}
	again(g)
}

// outages: some, of which most come soon.
func outages(r *rand.Rand, n int) []outage {
	var l []outage
	for range n {
		l = append(l, outage{r.Intn(1 + r.Intn(16)), r.Intn(20) - 2})
	}
	return l
}

// TestP19Often: how often the power has failed does not matter, be it at one and the same event, or anywhere.
func TestP19Often(t *testing.T) {
	r := rand.New(rand.NewSource(190))
	g := guarded(t, "key", double, 7)
	for i := range 100 {
		k, image := g.keeps, []string{square, large, triple, double}[i%4]
		u := update{version: k.version + 1 + r.Intn(300), base: k.version, patch: diff(k.image, image), image: image, example: raw(0)}
		l := u.fetched("key")
		g.plays(l[:r.Intn(len(l)+1)])
		var stuck []outage
		for range 300 {
			stuck = append(stuck, outage{0, r.Intn(18) - 2})
		}
		if n := g.brings(u, stuck...); n != 0 {
			t.Fatalf("%d outages did not come", n)
		}
		g.brings(above(g.keeps), outages(r, 20)...)
	}
}

// TestP19Never: where the power never lasts for the record nothing is lost, and nothing is won.
func TestP19Never(t *testing.T) {
	g := guarded(t, "key", double, 7)
	first := g.record
	m := toSquare(9, 7).manifest("key")
	for i := range 500 {
		g.play(api.Event{Kind: api.Offer, Text: m, Cut: i % 4, Torn: i % 16})
		g.play(boot)
		if g.record != first {
			t.Fatalf("P12: the record %q, want %q", g.record, first)
		}
	}
	again(g)
}

// TestP19AnyEvents: long runs of events, while the power fails anywhere; now and then an update that comes to be kept.
func TestP19AnyEvents(t *testing.T) {
	for seed := range int64(60) {
		r := rand.New(rand.NewSource(1960 + seed))
		g := guarded(t, words(r.Intn(65536), r.Intn(65536))[:r.Intn(5)], anImage(r), r.Intn(30000))
		var u update
		for i := 1; i <= 1000; i++ {
			e := anEvent(r, g.seen(), &u)
			if r.Intn(4) == 0 {
				e.Cut, e.Torn = r.Intn(8), r.Intn(20)-2
			}
			g.play(e)
			if i%100 == 0 && g.keeps.version < 65535 {
				g.brings(above(g.keeps), outages(r, r.Intn(4))...)
			}
		}
	}
}
