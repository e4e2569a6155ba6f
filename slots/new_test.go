package slots_test

import (
	"math/rand"
	"strings"
	"testing"

	"slots/api"
	"slots/slots"
)

func TestP9Told(t *testing.T) {
	p := paired(t, "key", double, 7)
	p.shows(api.Status{On: true, Version: 7, Kept: 7})
	p.holds(0, raw(1, 0, 0, 0, 8, 0, 0, 7, 0, 0, 0, 0, 0, 0, 0, 1))
	for i := 1; i < 23; i++ {
		if i == 11 {
			p.holds(i, double)
		} else {
			p.holds(i, "")
		}
	}
	q := paired(t, "", large, 65535)
	q.shows(api.Status{On: true, Version: 65535, Kept: 65535})
	q.holds(0, raw(1, 0, 0, 0, 80, 0, 255, 255, 0, 0, 0, 0, 0, 0, 0, 1))
	for i := range 5 {
		q.holds(11+i, large[16*i:16*i+16])
	}
	q.holds(16, "")
}

func TestP9Any(t *testing.T) {
	r := rand.New(rand.NewSource(9))
	for _, v := range []int{0, 1, 127, 128, 255, 256, 257, 32767, 32768, 65534, 65535} {
		for n := range 17 {
			paired(t, strings.Repeat("\xff", n), anImage(r), v)
		}
	}
	for range 300 {
		image := anImage(r)
		p := paired(t, words(r.Intn(65536)), image, r.Intn(65536))
		in := someValues(r)[:image[1]]
		p.goes(api.Infer, 0, words(in...), api.Reply{Version: p.m.version(0), Text: evalTwice(image, in), Ask: -1})
	}
}

func TestP9Wrong(t *testing.T) {
	long, full := strings.Repeat("k", 17), strings.Repeat("k", 16)
	for _, c := range []struct {
		name, key, image string
		version          int
		want             api.Errno
	}{
		{"too long a key", long, double, 7, api.ErrKey},
		{"too long a key ahead of all", long, "", -1, api.ErrKey},
		{"a huge key", huge[0], double, 7, api.ErrKey},
		{"no image", "key", "", 7, api.ErrImage},
		{"no image ahead of a wrong version", full, "", -1, api.ErrImage},
		{"an image and more", full, double + "\x00", 7, api.ErrImage},
		{"too short an image", full, double[:7], 7, api.ErrImage},
		{"a huge image", "key", huge[4], 7, api.ErrImage},
		{"a version below 0", "key", double, -1, api.ErrVersion},
		{"a version above all", "key", double, 65536, api.ErrVersion},
		{"the least number", "key", double, -1 << 63, api.ErrVersion},
		{"the greatest number", "key", double, 1<<63 - 1, api.ErrVersion},
		{"a version that is 7 modulo 65536", "key", double, 65543, api.ErrVersion},
	} {
		if x, err := slots.New(c.key, c.image, c.version); x != nil || err != c.want {
			t.Errorf("P9: %s: %v, %d, want %d", c.name, x != nil, err, c.want)
		}
	}
	for _, s := range neighbours(triple) {
		want := api.OK
		if !isImage(s) {
			want = api.ErrImage
		}
		if x, err := slots.New("key", s, 7); (x != nil) != (want == api.OK) || err != want {
			t.Errorf("P9: New of %q: %d, want %d", s, err, want)
		}
	}
}

func TestP10Status(t *testing.T) {
	p := paired(t, "key", double, 7)
	p.offered(toSquare(9, 7))
	p.shows(api.Status{On: true, Phase: 1, Version: 7, Kept: 7, Missing: 3})
	for i, c := range toSquare(9, 7).chunks() {
		p.ok(api.Chunk, i, c, 7)
		p.shows(api.Status{On: true, Phase: 1, Version: 7, Kept: 7, Missing: 2 - i})
	}
	p.ok(api.Off, 0, "", 0)
	p.shows(api.Status{})
	p.ok(api.Boot, 0, "", 7)
	p.shows(api.Status{On: true, Phase: 1, Version: 7, Kept: 7})
	p.ok(api.Tick, 0, "", 9)
	p.shows(api.Status{On: true, Phase: 2, Slot: 1, Version: 9, Kept: 7, Tries: 3})
	p.ok(api.Off, 0, "", 0)
	p.shows(api.Status{})
	p.ok(api.Boot, 0, "", 9)
	p.shows(api.Status{On: true, Phase: 2, Slot: 1, Version: 9, Kept: 7, Tries: 2})
	p.ok(api.Confirm, 0, "", 9)
	p.shows(api.Status{On: true, Slot: 1, Version: 9, Kept: 9})
	u := update{version: 1000, base: 9, patch: plainly(triple), image: triple, example: raw(0)}
	p.given(u)
	p.shows(api.Status{On: true, Phase: 1, Slot: 1, Version: 9, Kept: 9})
	p.ok(api.Tick, 0, "", 1000)
	p.shows(api.Status{On: true, Phase: 2, Version: 1000, Kept: 9, Tries: 3})
}

func TestP10Page(t *testing.T) {
	p := paired(t, "key", large, 7)
	p.tried(toSquare(9, 7))
	for range 2 {
		for _, i := range []int{-1 << 63, -1 << 60, -23, -1, 23, 24, 1 << 59, 1 << 60, 1<<63 - 1} {
			if s := p.x.Page(i); s != "" {
				t.Errorf("P10: Page(%d) = %q", i, s)
			}
		}
		p.holds(17, square[:16])
		p.holds(15, large[64:])
		p.alike("on or off")
		p.x.Do(api.Event{Kind: api.Off, Cut: -1})
		p.m.on = false
	}
}
