package slots_test

import (
	"strings"
	"testing"

	"slots/api"
	"slots/slots"
)

// model: a second telling of a device. It writes page by page while an event goes on, and a failure of the power breaks the event off there.
type model struct {
	key             string
	pages           [23][16]byte
	on              bool
	wait, next, age int
	left, torn      int // how many pages the power lasts for (below 0: for all), and how many bytes of the next one
}

// powerFails is thrown where the power fails.
type powerFails struct{}

// modelOf: what New has to give.
func modelOf(key, image string, version int) *model {
	m := &model{key: key, on: true, left: -1}
	for i := range len(image) {
		m.pages[11+i/16][i%16] = image[i]
	}
	copy(m.pages[0][:], raw(1, 0, 0, 0, len(image), 0, version/256, version%256, 0, 0, 0, 0, 0, 0, 0, 1))
	return m
}

// write: a page, or as much of it as the power lasts for.
func (m *model) write(page int, text string) {
	n := 16
	if m.left == 0 {
		n = max(0, min(16, m.torn))
	}
	text += strings.Repeat("\x00", 16-len(text))
	copy(m.pages[page][:n], text)
	if m.left == 0 {
		panic(powerFails{})
	}
	m.left--
}

// the: the page of THE RECORD, by the words of the document.
func (m *model) the() int {
	whole := func(i int) bool { return m.pages[i][0] == m.pages[i][15] }
	if whole(1) && (!whole(0) || m.pages[0][0] == byte((int(m.pages[1][0])+255)%256)) {
		return 1
	}
	return 0
}

// told: a byte of THE RECORD.
func (m *model) told(i int) int { return int(m.pages[m.the()][i]) }

// version: of a slot.
func (m *model) version(slot int) int { return m.told(6+2*slot)*256 + m.told(7+2*slot) }

func (m *model) image(slot int) string {
	s := ""
	for i := range m.told(4 + slot) {
		s += raw(int(m.pages[11+6*slot+i/16][i%16]))
	}
	return s
}

// record: a new record, of which some bytes are told.
func (m *model) record(told map[int]int) {
	b := m.pages[m.the()]
	for i, v := range told {
		b[i] = byte(v)
	}
	b[0]++
	b[15] = b[0]
	m.write(1-m.the(), string(b[:]))
}

// at: a byte of the manifest in its pages.
func (m *model) at(i int) int { return int(m.pages[2+i/16][i%16]) }

func (m *model) chunks() int { return (m.at(4) + 15) / 16 }

func (m *model) missing() []int {
	var l []int
	for i := range m.chunks() {
		if m.told(10)>>i%2 == 0 {
			l = append(l, i)
		}
	}
	return l
}

func (m *model) served() int {
	if m.told(2) == 2 {
		return 1 - m.told(1)
	}
	return m.told(1)
}

func (m *model) status() api.Status {
	if !m.on {
		return api.Status{}
	}
	s := api.Status{On: true, Phase: m.told(2), Slot: m.served(), Version: m.version(m.served()), Kept: m.version(m.told(1)), Tries: m.told(3)}
	if m.told(2) == 1 {
		s.Missing = len(m.missing())
	}
	return s
}

// isManifest: a second reading of what a manifest is.
func isManifest(key, s string) bool {
	r := &reader{s: s}
	for range 4 {
		r.next()
	}
	patch := r.between(1, 96)
	r.between(1, 96)
	for range 2 + 2*((patch+15)/16) {
		r.next()
	}
	if r.between(0, 1) == 1 {
		for range r.between(0, 8) + r.between(0, 8) {
			r.next()
		}
	}
	if r.bad || len(r.s) != 2 {
		return false
	}
	return r.s == words(slots.Sum(key+s[:len(s)-2]))
}

// do: what an event has to do and to answer.
func (m *model) do(e api.Event) (r api.Reply) {
	switch {
	case e.Kind < 1 || e.Kind > 7:
		return api.Reply{Err: api.ErrKind, Ask: -1}
	case m.on && e.Kind == 2:
		return api.Reply{Err: api.ErrOn, Ask: -1}
	case !m.on && e.Kind != 2:
		return api.Reply{Err: api.ErrOff, Ask: -1}
	}
	m.left, m.torn = e.Cut, e.Torn
	defer func() {
		if _, is := recover().(powerFails); is {
			m.on = false
			r = api.Reply{Err: api.ErrCut, Ask: -1}
		}
	}()
	r = [8]func(api.Event) api.Reply{1: m.off, 2: m.boot, 3: m.tick, 4: m.infer, 5: m.offer, 6: m.chunk, 7: m.confirm}[e.Kind](e)
	if r.Err != api.OK {
		return api.Reply{Err: r.Err, Ask: -1}
	}
	r.Version = m.status().Version
	return r
}

func (m *model) off(api.Event) api.Reply {
	m.on = false
	return api.Reply{Ask: -1}
}

func (m *model) boot(api.Event) api.Reply {
	if m.told(2) == 2 && m.told(3) == 0 {
		m.record(map[int]int{2: 0})
	} else if m.told(2) == 2 {
		m.record(map[int]int{3: m.told(3) - 1})
	}
	m.on, m.wait, m.next, m.age = true, 0, 1, 0
	return api.Reply{Ask: -1}
}

func (m *model) tick(api.Event) api.Reply {
	if m.told(2) == 2 {
		m.age++
		if m.age >= 5 {
			m.record(map[int]int{2: 0, 3: 0})
		}
	}
	if m.told(2) != 1 {
		return api.Reply{Ask: -1}
	}
	l := m.missing()
	if len(l) == 0 {
		return m.install()
	}
	m.wait = max(m.wait-1, 0)
	if m.wait > 0 {
		return api.Reply{Ask: -1}
	}
	m.wait, m.next = m.next, min(2*m.next, 8)
	return api.Reply{Ask: l[0]}
}

func (m *model) infer(e api.Event) api.Reply {
	s, err := slots.Eval(m.image(m.served()), e.Text)
	return api.Reply{Err: err, Text: s, Ask: -1}
}

func (m *model) offer(e api.Event) api.Reply {
	if m.told(2) == 2 {
		return api.Reply{Err: api.ErrBusy}
	}
	if !isManifest(m.key, e.Text) {
		return api.Reply{Err: api.ErrManifest}
	}
	kept := words(m.version(m.told(1)))
	if e.Text[:2] <= kept || e.Text[2:4] != kept {
		return api.Reply{Err: api.ErrVersion}
	}
	if m.told(2) == 1 {
		m.record(map[int]int{2: 0, 10: 0})
	}
	for i := range 3 {
		m.write(2+i, e.Text[min(16*i, len(e.Text)):min(16*i+16, len(e.Text))])
	}
	m.record(map[int]int{2: 1, 10: 0})
	m.wait, m.next = 0, 1
	return api.Reply{Ask: -1}
}

func (m *model) chunk(e api.Event) api.Reply {
	if m.told(2) != 1 {
		return api.Reply{Err: api.ErrIdle}
	}
	if e.N < 0 || e.N >= m.chunks() || len(e.Text) != min(16, m.at(4)-16*e.N) || words(slots.Sum(e.Text)) != raw(m.at(8+2*e.N), m.at(9+2*e.N)) {
		return api.Reply{Err: api.ErrChunk}
	}
	if m.told(10)>>e.N%2 == 0 {
		m.write(5+e.N, e.Text)
		m.record(map[int]int{10: m.told(10) + 1<<e.N})
		m.wait, m.next = 0, 1
	}
	return api.Reply{Ask: -1}
}

func (m *model) install() api.Reply {
	image, err := m.built()
	if err != api.OK {
		m.record(map[int]int{2: 0, 10: 0})
		return api.Reply{Err: err}
	}
	other := 1 - m.told(1)
	for i := 0; i < len(image); i += 16 {
		m.write(11+6*other+i/16, image[i:min(i+16, len(image))])
	}
	m.record(map[int]int{2: 2, 3: 3, 4 + other: len(image), 6 + 2*other: m.at(0), 7 + 2*other: m.at(1), 10: 0})
	m.age = 0
	return api.Reply{Ask: -1}
}

// built: the new image, or why there is none.
func (m *model) built() (string, api.Errno) {
	patch := ""
	for i := range m.at(4) {
		patch += raw(int(m.pages[5+i/16][i%16]))
	}
	image, ok := patchTwice(m.image(m.told(1)), patch)
	if !ok || len(image) != m.at(5) {
		return "", api.ErrPatch
	}
	if words(slots.Sum(image)) != raw(m.at(6), m.at(7)) {
		return "", api.ErrSum
	}
	if !isImage(image) {
		return "", api.ErrImage
	}
	at := 8 + 2*m.chunks()
	if m.at(at) == 0 {
		return image, api.OK
	}
	example := ""
	for i := range m.at(at+1) + m.at(at+2) {
		example += raw(m.at(at + 3 + i))
	}
	answer, err := slots.Eval(image, example[:m.at(at+1)])
	if err != api.OK || answer != example[m.at(at+1):] {
		return "", api.ErrTest
	}
	return image, api.OK
}

func (m *model) confirm(api.Event) api.Reply {
	if m.told(2) != 2 {
		return api.Reply{Err: api.ErrIdle}
	}
	m.record(map[int]int{1: 1 - m.told(1), 2: 0, 3: 0})
	return api.Reply{Ask: -1}
}

// seen: what somebody who sends events may know of the device.
func (m *model) seen() seen {
	in := func(slot int) known { return known{m.image(slot), m.version(slot)} }
	return seen{key: m.key, on: m.on, phase: m.told(2), keeps: in(m.told(1)), serves: in(m.served())}
}

// pair: a device, which is guarded, and its second telling, which play the same events.
type pair struct {
	*guard
	m *model
}

// paired: a new device that is like its second telling.
func paired(t *testing.T, key, image string, version int) *pair {
	t.Helper()
	p := &pair{guard: guarded(t, key, image, version), m: modelOf(key, image, version)}
	p.alike("a new device")
	return p
}

// alike: what can be seen of the two is the same.
func (p *pair) alike(why string) {
	p.t.Helper()
	if s := p.x.Status(); s != p.m.status() {
		p.t.Fatalf("P10: %s: Status() = %+v, want %+v; events: %#v", why, s, p.m.status(), p.past)
	}
	for i := range 23 {
		if s := p.x.Page(i); s != string(p.m.pages[i][:]) {
			p.t.Fatalf("P10: %s: Page(%d) = %q, want %q; events: %#v", why, i, s, p.m.pages[i], p.past)
		}
	}
}

// play: an event; both answer the same, and look the same behind it.
func (p *pair) play(e api.Event) api.Reply {
	p.t.Helper()
	r, want := p.guard.play(e), p.m.do(e)
	if r != want {
		p.t.Fatalf("P11: %+v: %+v, want %+v; events: %#v", e, r, want, p.past)
	}
	p.alike("behind an event")
	return r
}

// goes: an event at which the power does not fail has an answer that is told.
func (p *pair) goes(kind, n int, text string, want api.Reply) {
	p.t.Helper()
	p.gives(event(kind, n, text), want)
}

// gives: an event has an answer that is told.
func (p *pair) gives(e api.Event, want api.Reply) {
	p.t.Helper()
	if r := p.play(e); r != want {
		p.t.Fatalf("event %d, %d, %.100q, cut at %d and %d: %+v, want %+v", e.Kind, e.N, e.Text, e.Cut, e.Torn, r, want)
	}
}

// ok: an event answers nothing but the version.
func (p *pair) ok(kind, n int, text string, version int) {
	p.t.Helper()
	p.goes(kind, n, text, api.Reply{Version: version, Ask: -1})
}

// fails: an event answers an error, and nothing can be seen to have changed.
func (p *pair) fails(kind, n int, text string, err api.Errno) {
	p.t.Helper()
	pages, status := p.m.pages, p.x.Status()
	p.goes(kind, n, text, api.Reply{Err: err, Ask: -1})
	if p.x.Status() != status || p.m.pages != pages {
		p.t.Fatalf("event %d, %d, %.100q: the error %d, but something has changed", kind, n, text, err)
	}
}

// asks: a tick asks for a chunk (-1: for none).
func (p *pair) asks(chunk int) {
	p.t.Helper()
	p.goes(api.Tick, 0, "", api.Reply{Version: p.x.Status().Version, Ask: chunk})
}

// shows: the status is as it is told.
func (p *pair) shows(want api.Status) {
	p.t.Helper()
	if s := p.x.Status(); s != want {
		p.t.Fatalf("P10: Status() = %+v, want %+v", s, want)
	}
}

// holds: a page is as it is told, with 0 behind it.
func (p *pair) holds(page int, want string) {
	p.t.Helper()
	want += strings.Repeat("\x00", 16-len(want))
	if s := p.x.Page(page); s != want {
		p.t.Fatalf("Page(%d) = %q, want %q", page, s, want)
	}
}
