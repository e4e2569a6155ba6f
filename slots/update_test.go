package slots_test

import (
	"slots/api"
	"slots/slots"
)

// update: a new image with all that a manifest tells of it.
type update struct {
	version, base int
	patch, image  string
	example       string // with the byte ahead of it
}

// manifest: sealed by a key.
func (u update) manifest(key string) string {
	s := words(u.version, u.base) + raw(len(u.patch), len(u.image)) + words(slots.Sum(u.image))
	for _, c := range u.chunks() {
		s += words(slots.Sum(c))
	}
	return sealed(key, s+u.example)
}

// known: what is kept once the update is.
func (u update) known() known { return known{u.image, u.version} }

// fetched: the events by which the update is installed.
func (u update) fetched(key string) []api.Event {
	l := []api.Event{event(api.Offer, 0, u.manifest(key))}
	for i, c := range u.chunks() {
		l = append(l, event(api.Chunk, i, c))
	}
	return append(l, event(api.Tick, 0, ""))
}

// event: one at which the power does not fail.
func event(kind, n int, text string) api.Event {
	return api.Event{Kind: kind, N: n, Text: text, Cut: -1}
}

// sealed: a text with its seal.
func sealed(key, s string) string { return s + words(slots.Sum(key+s)) }

func (u update) chunks() []string {
	var l []string
	for i := 0; i < len(u.patch); i += 16 {
		l = append(l, u.patch[i:min(i+16, len(u.patch))])
	}
	return l
}

// plainly: a patch that gives just a text.
func plainly(s string) string { return raw(1, len(s)) + s }

// example: with the byte ahead of it.
func example(question, answer string) string {
	return raw(1, len(question), len(answer)) + question + answer
}

// Some images.
var (
	double = "M" + raw(1, 1, 1, 1, 0, 0, 1)          // 8 bytes
	triple = "M" + raw(1, 2, 1, 1, 0, 0, 1, 0, 1, 2) // 11 bytes
	square = chain(3, 8)                             // 32 bytes, two pages
	large  = chain(1, 23) + "\x18\x18\x18"           // 80 bytes, five pages
)

// chain: one input, a node that works on it twice, and n nodes that give the value ahead of them; the last one is the output.
func chain(what, n int) string {
	s := raw(what, 0, 0)
	for i := range n {
		s += raw(5, i+1, i+1)
	}
	outs := 1
	if n == 23 {
		outs = 4 // the longest image
	}
	return "M" + raw(1, n+1, outs) + s + raw(n+1)
}

// toSquare: the square by a patch of three chunks.
func toSquare(version, base int) update {
	return update{version: version, base: base, patch: plainly(square), image: square, example: raw(0)}
}

// offered: an update is offered; its version is not served yet.
func (p *pair) offered(u update) {
	p.t.Helper()
	p.ok(api.Offer, 0, u.manifest(p.m.key), u.base)
}

// given: an update is offered, and all its chunks come.
func (p *pair) given(u update) {
	p.t.Helper()
	p.offered(u)
	for i, c := range u.chunks() {
		p.ok(api.Chunk, i, c, u.base)
	}
}

// tried: an update is on trial.
func (p *pair) tried(u update) {
	p.t.Helper()
	p.given(u)
	p.ok(api.Tick, 0, "", u.version)
}

// kept: an update is confirmed.
func (p *pair) kept(u update) {
	p.t.Helper()
	p.tried(u)
	p.ok(api.Confirm, 0, "", u.version)
}

// again: Off and Boot.
func (p *pair) again(version int) {
	p.t.Helper()
	p.ok(api.Off, 0, "", 0)
	p.ok(api.Boot, 0, "", version)
}
