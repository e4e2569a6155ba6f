package slots_test

import (
	"math/rand"
	"strings"
	"testing"

	"slots/api"
	"slots/slots"
)

func TestP16Told(t *testing.T) {
	p := paired(t, "key", double, 7)
	u := toSquare(9, 7)
	u.example = example(words(5), words(25))
	m := u.manifest("key") // 23 bytes
	p.ok(api.Offer, 0, m, 7)
	p.shows(api.Status{On: true, Phase: 1, Version: 7, Kept: 7, Missing: 3})
	p.holds(0, raw(1, 0, 0, 0, 8, 0, 0, 7, 0, 0, 0, 0, 0, 0, 0, 1))
	p.holds(1, raw(2, 0, 1, 0, 8, 0, 0, 7, 0, 0, 0, 0, 0, 0, 0, 2))
	p.holds(2, m[:16])
	p.holds(3, m[16:])
	p.holds(4, "")
	c := u.chunks()
	p.ok(api.Chunk, 2, c[2], 7)
	p.holds(7, c[2])
	p.holds(0, raw(3, 0, 1, 0, 8, 0, 0, 7, 0, 0, 4, 0, 0, 0, 0, 3))
	p.ok(api.Chunk, 0, c[0], 7)
	p.holds(5, c[0])
	p.holds(1, raw(4, 0, 1, 0, 8, 0, 0, 7, 0, 0, 5, 0, 0, 0, 0, 4))
	p.ok(api.Chunk, 0, c[0], 7)
	p.ok(api.Chunk, 2, c[2], 7)
	p.holds(1, raw(4, 0, 1, 0, 8, 0, 0, 7, 0, 0, 5, 0, 0, 0, 0, 4))
	p.ok(api.Chunk, 1, c[1], 7)
	p.holds(6, c[1])
	p.holds(0, raw(5, 0, 1, 0, 8, 0, 0, 7, 0, 0, 7, 0, 0, 0, 0, 5))
}

// TestP16Again: an offer while another one is fetched; nothing of the old one is left.
func TestP16Again(t *testing.T) {
	p := paired(t, "key", double, 7)
	long := update{version: 9, base: 7, patch: strings.Repeat("x", 96), image: strings.Repeat("y", 96), example: example("12345678", "87654321")}
	m := long.manifest("key") // 41 bytes
	p.ok(api.Offer, 0, m, 7)
	p.shows(api.Status{On: true, Phase: 1, Version: 7, Kept: 7, Missing: 6})
	p.holds(4, m[32:])
	for i, c := range long.chunks() {
		p.ok(api.Chunk, i, c, 7)
	}
	p.holds(1, raw(8, 0, 1, 0, 8, 0, 0, 7, 0, 0, 63, 0, 0, 0, 0, 8))
	short := update{version: 8, base: 7, patch: plainly(triple), image: triple, example: raw(0)}
	p.offered(short) // 13 bytes
	p.holds(0, raw(9, 0, 0, 0, 8, 0, 0, 7, 0, 0, 0, 0, 0, 0, 0, 9))
	p.holds(1, raw(10, 0, 1, 0, 8, 0, 0, 7, 0, 0, 0, 0, 0, 0, 0, 10))
	p.holds(2, short.manifest("key"))
	p.holds(3, "")
	p.holds(4, "")
	p.shows(api.Status{On: true, Phase: 1, Version: 7, Kept: 7, Missing: 1})
	p.holds(5, strings.Repeat("x", 16))
	p.ok(api.Chunk, 0, short.patch, 7)
	p.holds(5, short.patch)
	p.offered(short)
	p.shows(api.Status{On: true, Phase: 1, Version: 7, Kept: 7, Missing: 1})
	p.asks(0)
	p.ok(api.Chunk, 0, short.patch, 7)
	p.ok(api.Tick, 0, "", 8)
}

func TestP16Order(t *testing.T) {
	p := paired(t, "key", double, 7)
	old, none := toSquare(7, 7).manifest("key"), toSquare(9, 7).manifest("")
	p.fails(api.Offer, 0, none, api.ErrManifest)
	p.fails(api.Offer, 0, toSquare(7, 7).manifest(""), api.ErrManifest)
	p.fails(api.Offer, 0, old, api.ErrVersion)
	p.fails(api.Chunk, 0, "", api.ErrIdle)
	p.fails(api.Chunk, 0, square[:16], api.ErrIdle)
	p.offered(toSquare(9, 7))
	p.fails(api.Offer, 0, none, api.ErrManifest)
	p.fails(api.Offer, 0, old, api.ErrVersion)
	p.given(toSquare(9, 7))
	p.ok(api.Tick, 0, "", 9)
	for _, s := range []string{"", none, old, toSquare(9, 7).manifest("key"), toSquare(10, 7).manifest("key"), toSquare(10, 9).manifest("key")} {
		p.fails(api.Offer, 0, s, api.ErrBusy)
	}
	p.fails(api.Chunk, 0, toSquare(9, 7).chunks()[0], api.ErrIdle)
	p.ok(api.Confirm, 0, "", 9)
	p.fails(api.Offer, 0, toSquare(10, 7).manifest("key"), api.ErrVersion)
	p.fails(api.Chunk, 0, toSquare(9, 7).chunks()[0], api.ErrIdle)
	p.offered(toSquare(10, 9))
}

func TestP16Versions(t *testing.T) {
	some := []int{0, 1, 2, 126, 127, 128, 129, 254, 255, 256, 257, 32766, 32767, 32768, 32769, 65533, 65534, 65535}
	for _, kept := range some {
		for _, version := range some {
			for _, base := range []int{kept, kept - 1, kept + 1, kept + 256, kept ^ 32768, 65535 - kept, version, 0} {
				if base < 0 || base > 65535 {
					continue
				}
				p := paired(t, "key", double, kept)
				m := toSquare(version, base).manifest("key")
				if base == kept && version > kept {
					p.ok(api.Offer, 0, m, kept)
				} else {
					p.fails(api.Offer, 0, m, api.ErrVersion)
				}
			}
		}
	}
}

// TestP16KeptVersion: it is the kept version that counts, not that of an image that was given up.
func TestP16KeptVersion(t *testing.T) {
	p := paired(t, "key", double, 7)
	p.tried(toSquare(1000, 7))
	for range 4 {
		p.play(api.Event{Kind: api.Off, Cut: -1})
		p.play(api.Event{Kind: api.Boot, Cut: -1})
	}
	p.shows(api.Status{On: true, Version: 7, Kept: 7})
	p.fails(api.Offer, 0, toSquare(1001, 1000).manifest("key"), api.ErrVersion)
	p.kept(toSquare(8, 7))
	p.fails(api.Offer, 0, toSquare(8, 8).manifest("key"), api.ErrVersion)
	p.fails(api.Offer, 0, toSquare(9, 7).manifest("key"), api.ErrVersion)
	p.kept(toSquare(9, 8))
}

func TestP16Keys(t *testing.T) {
	keys := []string{"", "k", "key", "kez", "key\x00", "\x00", "\x00\x00", strings.Repeat("k", 16), strings.Repeat("\xff", 16), strings.Repeat("\xff", 15)}
	u := toSquare(9, 7)
	for _, key := range keys {
		for _, other := range keys {
			p := paired(t, key, double, 7)
			if key == other {
				p.ok(api.Offer, 0, u.manifest(other), 7)
			} else {
				p.fails(api.Offer, 0, u.manifest(other), api.ErrManifest)
			}
		}
	}
	// The seal covers what is ahead of it alone, and the key comes first.
	body := u.manifest("key")
	body = body[:len(body)-2]
	for _, seal := range []int{slots.Sum(body), slots.Sum(body + "key"), slots.Sum("key"+body) ^ 1, slots.Sum("key"+body) ^ 256, slots.Sum("key" + body + "\x00\x00")} {
		p := paired(t, "key", double, 7)
		p.fails(api.Offer, 0, body+words(seal), api.ErrManifest)
	}
	s := words(slots.Sum("key" + body))
	p := paired(t, "key", double, 7)
	p.fails(api.Offer, 0, body+s[1:]+s[:1], api.ErrManifest)
	p.fails(api.Offer, 0, body, api.ErrManifest)
	p.fails(api.Offer, 0, body+s[:1], api.ErrManifest)
	p.ok(api.Offer, 0, body+s, 7)
}

// offers: a text is offered to a new device; whether it is a manifest is told by a second reading.
func offers(t *testing.T, s string) {
	t.Helper()
	p := paired(t, "key", double, 7)
	e := api.Event{Kind: api.Offer, Text: s, Cut: -1}
	r := p.play(e)
	if (r.Err == api.ErrManifest) == isManifest("key", s) {
		t.Fatalf("P16: %q: %+v", s, r)
	}
	if r.Err == api.OK {
		for i := range 7 {
			p.play(api.Event{Kind: api.Chunk, N: i, Text: "0123456789abcdef", Cut: -1})
		}
		p.play(api.Event{Kind: api.Tick, Cut: -1})
	}
}

// TestP16Lengths: each length of a patch and of an image, with as many sums as are wanted, and one more or less.
func TestP16Lengths(t *testing.T) {
	for n := range 256 {
		for _, other := range []int{0, 1, 16, 95, 96, 97, 255} {
			for _, l := range [][2]int{{n, other}, {other, n}} {
				chunks := (l[0] + 15) / 16
				for _, sums := range []int{chunks - 1, chunks, chunks + 1} {
					if sums >= 0 {
						offers(t, sealed("key", words(9, 7)+raw(l[0], l[1])+words(1)+strings.Repeat("ab", sums)+raw(0)))
					}
				}
			}
		}
	}
}

// TestP16Examples: each length of a question and of an answer, with as many bytes as are wanted, and one more or less.
func TestP16Examples(t *testing.T) {
	head := words(9, 7) + raw(20, 30) + words(1, 2, 3)
	for has := range 256 {
		offers(t, sealed("key", head+raw(has)))
		offers(t, sealed("key", head+raw(has, 0, 0)))
		offers(t, sealed("key", head+raw(has, 1, 1, 5, 5)))
	}
	for question := range 12 {
		for answer := range 12 {
			for more := -1; more <= 1; more++ {
				if question+answer+more >= 0 {
					offers(t, sealed("key", head+raw(1, question, answer)+strings.Repeat("\x01", question+answer+more)))
				}
			}
		}
	}
	for _, l := range [][2]int{{255, 1}, {1, 255}, {255, 255}, {128, 128}, {256 - 8, 8}} {
		offers(t, sealed("key", head+raw(1, l[0], l[1])+strings.Repeat("\x01", l[0]+l[1])))
	}
}

// TestP16Neighbours: texts one byte off a manifest, with the seal that it had, and sealed anew.
func TestP16Neighbours(t *testing.T) {
	u := toSquare(9, 7)
	for _, ex := range []string{raw(0), example(words(5), words(25))} {
		u.example = ex
		m := u.manifest("key")
		for _, s := range neighbours(m) {
			offers(t, s)
			if len(s) >= 2 {
				offers(t, sealed("key", s[:len(s)-2]))
			}
		}
	}
	for _, s := range huge {
		offers(t, s)
		offers(t, sealed("key", s))
		offers(t, u.manifest("key")+s)
	}
}

// TestP16AllManifests: manifests of each length, as they are and cut short.
func TestP16AllManifests(t *testing.T) {
	r := rand.New(rand.NewSource(16))
	for range 300 {
		u := anUpdate(r, 7, double)
		s := u.manifest("key")
		offers(t, s)
		for i := range len(s) {
			offers(t, s[:i])
		}
	}
}

func TestP16Chunks(t *testing.T) {
	p := paired(t, "key", double, 7)
	u := toSquare(9, 7)
	c := u.chunks()
	p.offered(u)
	for _, n := range []int{-1 << 63, -1 << 32, -256, -1, 3, 4, 5, 6, 63, 64, 256, 1 << 32, 1<<63 - 1} {
		for _, s := range append(c, "") {
			p.fails(api.Chunk, n, s, api.ErrChunk)
		}
	}
	for n := range 3 {
		for i, s := range c {
			if i != n {
				p.fails(api.Chunk, n, s, api.ErrChunk)
			}
		}
		for _, s := range neighbours(c[n]) {
			if s != c[n] {
				p.fails(api.Chunk, n, s, api.ErrChunk)
			}
		}
		for _, s := range huge {
			p.fails(api.Chunk, n, s, api.ErrChunk)
		}
	}
	p.ok(api.Chunk, 1, c[1], 7)
	// The errors come ahead of a chunk that is there.
	p.fails(api.Chunk, 1, c[0], api.ErrChunk)
	p.fails(api.Chunk, 1, c[1]+"\x00", api.ErrChunk)
	p.ok(api.Chunk, 1, c[1], 7)
}

// TestP16SameSum: a text of the same length and sum is the chunk, be it another text; but one that is there stays.
func TestP16SameSum(t *testing.T) {
	p := paired(t, "key", double, 7)
	u := toSquare(9, 7)
	c := u.chunks()[0]
	b := []byte(c)
	for i, v := range []byte{0x01, 0x10, 0x21} {
		b[9+i] ^= v
	}
	if string(b) == c || slots.Sum(string(b)) != slots.Sum(c) {
		t.Fatal("no other text of this sum")
	}
	p.offered(u)
	p.ok(api.Chunk, 0, string(b), 7)
	p.holds(5, string(b))
	p.ok(api.Chunk, 0, c, 7)
	p.holds(5, string(b))
}

// TestP16ChunkSizes: the last chunk of a patch of each length.
func TestP16ChunkSizes(t *testing.T) {
	for size := 1; size <= 96; size++ {
		u := update{version: 8, base: 7, patch: strings.Repeat("p", size), image: triple, example: raw(0)}
		p := paired(t, "", double, 7)
		p.offered(u)
		for i, c := range u.chunks() {
			p.fails(api.Chunk, i, c[1:], api.ErrChunk)
			p.fails(api.Chunk, i, c+"p", api.ErrChunk)
			p.ok(api.Chunk, i, c, 7)
			p.holds(5+i, c)
		}
		p.fails(api.Chunk, len(u.chunks()), "", api.ErrChunk)
		p.goes(api.Tick, 0, "", api.Reply{Err: api.ErrPatch, Ask: -1})
	}
}

// TestP16Alike: chunks that are the same text are told apart by their numbers.
func TestP16Alike(t *testing.T) {
	p := paired(t, "key", double, 7)
	u := update{version: 8, base: 7, patch: strings.Repeat(raw(1, 0), 48), image: triple, example: raw(0)}
	p.offered(u)
	for i := 5; i >= 0; i-- {
		p.ok(api.Chunk, i, u.patch[:16], 7)
		p.shows(api.Status{On: true, Phase: 1, Version: 7, Kept: 7, Missing: i})
	}
}
