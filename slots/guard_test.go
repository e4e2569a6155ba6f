package slots_test

import (
	"strings"
	"testing"

	"slots/api"
	"slots/slots"
)

// known: an image and its version.
type known struct {
	image   string
	version int
}

// guard: a device, and whether P19 holds for it behind each event. What may be kept and served follows from the events alone; the pages tell what is.
type guard struct {
	t        *testing.T
	x        *slots.Device
	key      string
	past     []api.Event
	record   string // THE RECORD
	keeps    known
	trial    known     // no image: nothing is on trial
	manifest string    // of what is fetched; empty: nothing is
	chunks   [6]string // that came for it
}

// guarded: a new device.
func guarded(t *testing.T, key, image string, version int) *guard {
	t.Helper()
	x, err := slots.New(key, image, version)
	if x == nil || err != api.OK {
		t.Fatalf("P9: New(%q, %q, %d): %d", key, image, version, err)
	}
	g := &guard{t: t, x: x, key: key, keeps: known{image, version}}
	g.record = g.whole()
	g.look()
	return g
}

// play: an event, behind which P19 holds.
func (g *guard) play(e api.Event) api.Reply {
	g.t.Helper()
	g.past = append(g.past, e)
	before := g.record
	r := g.x.Do(e)
	g.record = g.whole()
	if g.record != before {
		g.follow(e)
	} else if e.Kind == api.Confirm && r.Err == api.OK {
		g.breaks("what was confirmed is not kept")
	}
	g.look()
	return r
}

// plays: events, whatever they answer.
func (g *guard) plays(l []api.Event) {
	g.t.Helper()
	for _, e := range l {
		g.play(e)
	}
}

func (g *guard) breaks(why string) {
	g.t.Helper()
	g.t.Fatalf("P19: %s; the record: %q; kept: %#v; on trial: %#v; events: %#v", why, g.record, g.keeps, g.trial, g.past)
}

// whole: THE RECORD; one of the two has to be whole.
func (g *guard) whole() string {
	g.t.Helper()
	a, b := g.x.Page(0), g.x.Page(1)
	switch {
	case b[0] == b[15] && (a[0] != a[15] || a[0]+1 == b[0]):
		return b
	case a[0] != a[15]:
		g.breaks("no record is whole")
	}
	return a
}

// follow: what an event means by which the record is another one. Others than these may not change it.
func (g *guard) follow(e api.Event) {
	g.t.Helper()
	phase, trying, fetching := int(g.record[2]), g.trial.image != "", g.manifest != ""
	switch {
	case e.Kind == api.Offer && !trying && phase == api.Fetching:
		g.manifest, g.chunks = e.Text, [6]string{}
	case e.Kind == api.Offer && fetching && phase == api.Steady:
		g.manifest = ""
	case e.Kind == api.Chunk && fetching && phase == api.Fetching && e.N >= 0 && e.N < 6:
		g.chunks[e.N] = e.Text
	case e.Kind == api.Tick && fetching && phase == api.Trial:
		g.trial, g.manifest = g.built(), ""
	case e.Kind == api.Tick && phase == api.Steady:
		g.trial, g.manifest = known{}, ""
	case e.Kind == api.Boot && trying && phase == api.Trial:
	case e.Kind == api.Boot && trying && phase == api.Steady:
		g.trial = known{}
	case e.Kind == api.Confirm && trying && phase == api.Steady:
		if g.trial.version <= g.keeps.version {
			g.breaks("the kept version falls")
		}
		g.keeps, g.trial = g.trial, known{}
	default:
		g.breaks("the record changes")
	}
}

// built: what may be installed, by the manifest and the chunks that came.
func (g *guard) built() known {
	g.t.Helper()
	m, patch := g.manifest, strings.Join(g.chunks[:], "")
	if !isManifest(g.key, m) || m[2:4] != words(g.keeps.version) || len(patch) != int(m[4]) {
		g.breaks("no manifest, or not its chunks")
	}
	image, ok := patchTwice(g.keeps.image, patch)
	if !ok || len(image) != int(m[5]) || words(slots.Sum(image)) != m[6:8] || !isImage(image) {
		g.breaks("what is installed is not what the manifest tells of")
	}
	if ex := m[8+2*((len(patch)+15)/16) : len(m)-2]; ex[0] == 1 {
		question, answer := ex[3:3+ex[1]], ex[3+ex[1]:]
		if len(question) != 2*int(image[1]) || evalTwice(image, valuesIn(question)) != answer {
			g.breaks("what is installed does not answer the example")
		}
	}
	return known{image, int(m[0])<<8 | int(m[1])}
}

// valuesIn: the values of a text's words.
func valuesIn(s string) []int {
	var l []int
	for i := 0; i+1 < len(s); i += 2 {
		l = append(l, int(int16(uint16(s[i])<<8|uint16(s[i+1]))))
	}
	return l
}

// in: what stands in a slot, by the record.
func (g *guard) in(slot int) known {
	s := ""
	for i := range 6 {
		s += g.x.Page(11 + 6*slot + i)
	}
	version := g.record[6+2*slot:]
	return known{s[:min(96, int(g.record[4+slot]))], int(version[0])<<8 | int(version[1])}
}

// look: what is kept and what is served is what the events tell.
func (g *guard) look() {
	g.t.Helper()
	if g.record[1] > 1 || g.in(int(g.record[1])) != g.keeps {
		g.breaks("another image is kept")
	}
	slot, served := int(g.record[1]), g.keeps
	if (g.record[2] == api.Trial) != (g.trial.image != "") {
		g.breaks("on trial, or not")
	}
	if g.trial.image != "" {
		slot, served = 1-slot, g.trial
	}
	if g.in(slot) != served {
		g.breaks("another image is served")
	}
	s := g.x.Status()
	if !s.On {
		return
	}
	if s.Slot != slot || s.Version != served.version || s.Kept != g.keeps.version {
		g.breaks("another version is served or kept")
	}
	var in []int
	for i := range int(served.image[1]) {
		in = append(in, wide[(len(g.past)+5*i)%len(wide)])
	}
	r := g.x.Do(api.Event{Kind: api.Infer, Text: words(in...), Cut: -1})
	if r != (api.Reply{Version: served.version, Text: evalTwice(served.image, in), Ask: -1}) {
		g.breaks("another net answers")
	}
}

// seen: what somebody who sends events may know of a device.
func (g *guard) seen() seen {
	s := seen{key: g.key, on: g.x.Status().On, phase: int(g.record[2]), keeps: g.keeps, serves: g.keeps}
	if g.trial.image != "" {
		s.serves = g.trial
	}
	return s
}

// outage: the power fails behind so many pages, with so many bytes of the next one written.
type outage struct{ pages, torn int }

// wrote: how many pages an event has written, by P13 to P18, if the power did not fail.
func wrote(e api.Event, before, after string) int {
	switch {
	case before == after:
		return 0
	case e.Kind == api.Offer && before[2] == api.Fetching:
		return 5
	case e.Kind == api.Offer:
		return 4
	case e.Kind == api.Chunk:
		return 2
	case e.Kind == api.Tick && after[2] == api.Trial:
		return 1 + (int(after[5-after[1]])+15)/16
	}
	return 1
}

// toward: the next event by which somebody gets an update kept; asked is the chunk that was asked for last.
func (g *guard) toward(u update, asked int) api.Event {
	s := g.x.Status()
	switch {
	case !s.On:
		return event(api.Boot, 0, "")
	case s.Phase == api.Trial && g.trial == u.known():
		return event(api.Confirm, 0, "")
	case s.Phase == api.Trial:
		return event(api.Tick, 0, "") // until this other one is given up
	case g.manifest != u.manifest(g.key):
		return event(api.Offer, 0, u.manifest(g.key))
	case asked >= 0:
		return event(api.Chunk, asked, u.chunks()[asked])
	}
	return event(api.Tick, 0, "")
}

// brings: an update is sent until it is kept, while the power fails again and again: it is kept in the end. The answer is how many of the outages did not come.
func (g *guard) brings(u update, l ...outage) int {
	g.t.Helper()
	l = append([]outage{}, l...)
	asked := -1
	for range 30 * (1 + len(l)) {
		if g.keeps == u.known() && g.x.Status().On {
			return len(l)
		}
		e := g.toward(u, asked)
		if len(l) > 0 {
			e.Cut, e.Torn = l[0].pages, l[0].torn
		}
		before := g.record
		r := g.play(e)
		asked = r.Ask
		if r.Err == api.ErrCut && len(l) > 0 {
			l = l[1:]
			continue
		}
		if r.Err != api.OK {
			g.t.Fatalf("P19: %+v: %+v; events: %#v", e, r, g.past)
		}
		if len(l) > 0 {
			l[0].pages -= wrote(e, before, g.record)
		}
	}
	g.breaks("the new one does not come to be kept")
	return 0
}
