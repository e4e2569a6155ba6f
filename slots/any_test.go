package slots_test

import (
	"math/rand"
	"strings"
	"testing"

	"slots/api"
	"slots/slots"
)

// anUpdate: an update of a base, of which some can not be installed.
func anUpdate(r *rand.Rand, kept int, base string) update {
	image := anImage(r)
	patch := diff(base, image)
	if len(patch) > 96 || r.Intn(4) == 0 {
		image = []string{double, triple, square}[r.Intn(3)]
		patch = plainly(image)
	}
	u := update{version: min(65535, kept+1+r.Intn(3)), base: kept, patch: patch, image: image, example: raw(0)}
	in := someValues(r)[:image[1]]
	if r.Intn(2) == 0 {
		u.example = example(words(in...), evalTwice(image, in))
	}
	switch r.Intn(24) {
	case 0:
		u.patch += "\x04"
		u.patch = u.patch[max(0, len(u.patch)-96):]
	case 1:
		u.image += "\x00"
	case 2:
		u.image = strings.Repeat("\x07", len(u.image))
	case 3:
		u.patch, u.image = plainly("no image"), "no image"
	case 4:
		u.example = example(words(in...), evalTwice(image, in)[1:])
	case 5:
		u.example = example(words(in...)[1:], evalTwice(image, in))
	case 6:
		u.version = r.Intn(65536)
	case 7:
		u.base = r.Intn(65536)
	}
	return u
}

// seen: what somebody who sends events may know of a device.
type seen struct {
	key           string
	on            bool
	phase         int
	keeps, serves known
}

// anEvent: an event that may well be the right one for a device of which this is known; u is the update that was offered last.
func anEvent(r *rand.Rand, s seen, u *update) api.Event {
	e := api.Event{Cut: -1, N: r.Intn(9) - 1}
	if !s.on {
		e.Kind = api.Boot
		if r.Intn(20) == 0 {
			e.Kind = r.Intn(10) - 1
		}
		return e
	}
	e.Kind = []int{api.Off, api.Tick, api.Tick, api.Infer, api.Offer, api.Chunk, api.Chunk, api.Chunk, api.Chunk, api.Confirm, r.Intn(10) - 1}[r.Intn(11)]
	if s.phase == api.Fetching && e.Kind == api.Offer && r.Intn(4) > 0 {
		e.Kind = api.Chunk
	}
	switch e.Kind {
	case api.Infer:
		ins := int(s.serves.image[1])
		if r.Intn(10) == 0 {
			ins = r.Intn(5)
		}
		e.Text = words(someValues(r)[:ins]...)
	case api.Offer:
		*u = anUpdate(r, s.keeps.version, s.keeps.image)
		e.Text = bent(r, u.manifest(s.key))
	case api.Chunk:
		if e.N >= 0 && e.N < len(u.chunks()) {
			e.Text = bent(r, u.chunks()[e.N])
		}
	}
	return e
}

// bent: a text, or, seldom, one that is one byte off.
func bent(r *rand.Rand, s string) string {
	if s == "" || r.Intn(15) > 0 {
		return s
	}
	i := r.Intn(len(s))
	switch r.Intn(3) {
	case 0:
		return s[:i] + s[i+1:]
	case 1:
		return s[:i] + "x" + s[i:]
	}
	return s[:i] + raw(r.Intn(256)) + s[i+1:]
}

// TestP11AnyEvents: long runs of events, without a failure of the power but by Off.
func TestP11AnyEvents(t *testing.T) {
	seen := map[api.Reply]bool{}
	for seed := range int64(60) {
		r := rand.New(rand.NewSource(seed))
		p := paired(t, words(r.Intn(65536), r.Intn(65536))[:r.Intn(5)], anImage(r), []int{0, 7, 254, 32766, 65500}[r.Intn(5)])
		var u update
		for range 1000 {
			a := p.play(anEvent(r, p.m.seen(), &u))
			seen[api.Reply{Err: a.Err}] = true
		}
	}
	for _, err := range []api.Errno{api.OK, api.ErrImage, api.ErrInput, api.ErrPatch, api.ErrVersion, api.ErrKind, api.ErrOff, api.ErrOn, api.ErrBusy, api.ErrIdle, api.ErrManifest, api.ErrChunk, api.ErrSum, api.ErrTest} {
		if !seen[api.Reply{Err: err}] {
			t.Errorf("the runs do not come to the error %d", err)
		}
	}
}

// TestP1Devices: devices do not disturb one another, nor do the calls between.
func TestP1Devices(t *testing.T) {
	r := rand.New(rand.NewSource(1))
	var l []*pair
	var us []update
	for i := range 20 {
		l = append(l, paired(t, "key"[:i%4], []string{double, triple, square}[i%3], i%2))
		us = append(us, update{})
	}
	for range 5000 {
		i := r.Intn(len(l))
		l[i].play(anEvent(r, l[i].m.seen(), &us[i]))
		k := r.Intn(len(l))
		l[k].alike("beside the events of another device")
		slots.Eval(double, words(k))
		slots.Diff(double, square)
	}
}

// TestP1SameEvents: the same events make the same device.
func TestP1SameEvents(t *testing.T) {
	r := rand.New(rand.NewSource(2))
	p := paired(t, "key", double, 7)
	var u update
	for range 1000 {
		p.play(anEvent(r, p.m.seen(), &u))
	}
	q := paired(t, "key", double, 7)
	for _, e := range p.past {
		q.x.Status()
		q.x.Page(e.N)
		q.play(e)
	}
	if q.m.pages != p.m.pages {
		t.Error("P1: another flash")
	}
}

// TestP1HugeEvents: texts and numbers beyond all, in each phase.
func TestP1HugeEvents(t *testing.T) {
	p := paired(t, "key", double, 7)
	all := func() {
		for _, k := range []int{api.Tick, api.Infer, api.Offer, api.Chunk} {
			for _, s := range huge {
				for _, n := range []int{-1 << 63, 0, 1<<63 - 1} {
					e := api.Event{Kind: k, N: n, Text: s, Cut: -1 << 63, Torn: n}
					if k != api.Tick || n == 0 && s == huge[0] {
						p.play(e)
					}
				}
			}
		}
	}
	all()
	p.offered(toSquare(9, 7))
	all()
	p.given(toSquare(9, 7))
	all()
	p.shows(api.Status{On: true, Phase: 2, Slot: 1, Version: 9, Kept: 7, Tries: 3})
	all()
}
