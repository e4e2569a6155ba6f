package slots_test

import (
	"testing"

	"slots/api"
)

var kinds = []int{api.Off, api.Boot, api.Tick, api.Infer, api.Offer, api.Chunk, api.Confirm}

func TestP11Kinds(t *testing.T) {
	none := []int{-1 << 63, -7, -1, 0, 8, 9, 255, 257, 263, 1<<32 + 3, 1<<63 - 1}
	p := paired(t, "key", double, 7)
	for _, k := range none {
		p.fails(k, 0, words(1), api.ErrKind)
	}
	p.fails(api.Boot, 0, "", api.ErrOn)
	p.ok(api.Off, 0, "", 0)
	for _, k := range none {
		p.fails(k, 0, words(1), api.ErrKind)
	}
	for _, k := range kinds {
		if k != api.Boot {
			p.fails(k, 0, words(1), api.ErrOff)
			p.fails(k, -1, huge[0], api.ErrOff)
		}
	}
	p.ok(api.Boot, 0, "", 7)
	p.fails(api.Boot, 0, "", api.ErrOn)
}

// TestP11InEachPhase: each kind of event in each phase, with a number and a text that fit nothing.
func TestP11InEachPhase(t *testing.T) {
	for _, phase := range []int{api.Steady, api.Fetching, api.Trial} {
		for _, k := range kinds {
			for _, n := range []int{-1 << 63, -1, 0, 6, 1<<63 - 1} {
				for _, s := range []string{"", "x", words(5), words(5, 6), huge[0], huge[3]} {
					p := paired(t, "key", double, 7)
					switch phase {
					case api.Fetching:
						p.offered(toSquare(9, 7))
					case api.Trial:
						p.tried(toSquare(9, 7))
					}
					p.play(api.Event{Kind: k, N: n, Text: s, Cut: -1, Torn: n})
					p.play(api.Event{Kind: api.Boot, N: n, Text: s, Cut: -1, Torn: n})
					p.play(api.Event{Kind: api.Tick, N: n, Text: s, Cut: -1, Torn: n})
				}
			}
		}
	}
}

func TestP13Steady(t *testing.T) {
	p := paired(t, "key", double, 7)
	for range 5 {
		p.again(7)
	}
	p.holds(0, raw(1, 0, 0, 0, 8, 0, 0, 7, 0, 0, 0, 0, 0, 0, 0, 1))
	p.holds(1, "")
	p.ok(api.Off, 0, "", 0)
	p.fails(api.Off, 0, "", api.ErrOff)
}

func TestP13Fetching(t *testing.T) {
	p := paired(t, "key", double, 7)
	u := toSquare(9, 7)
	p.offered(u)
	p.ok(api.Chunk, 1, u.chunks()[1], 7)
	for range 5 {
		p.again(7)
		p.holds(0, raw(3, 0, 1, 0, 8, 0, 0, 7, 0, 0, 2, 0, 0, 0, 0, 3))
	}
	p.ok(api.Chunk, 2, u.chunks()[2], 7)
	p.ok(api.Chunk, 0, u.chunks()[0], 7)
	p.again(7)
	p.ok(api.Tick, 0, "", 9)
}

// TestP13Waits: a Boot begins to ask anew.
func TestP13Waits(t *testing.T) {
	p := paired(t, "key", double, 7)
	p.offered(toSquare(9, 7))
	for n := range 20 {
		for i := 1; i <= n; i++ {
			p.asks(asked(i, 0))
		}
		p.again(7)
	}
}

// asked: the chunk, or none, for which the i-th tick asks, if none comes.
func asked(i, chunk int) int {
	if i == 1 || i == 2 || i == 4 || i > 0 && i%8 == 0 {
		return chunk
	}
	return -1
}

func TestP13Trial(t *testing.T) {
	p := paired(t, "key", double, 7)
	p.tried(toSquare(9, 7))
	for i := range 3 {
		p.again(9)
		p.shows(api.Status{On: true, Phase: 2, Slot: 1, Version: 9, Kept: 7, Tries: 2 - i})
	}
	p.holds(0, raw(9, 0, 2, 0, 8, 32, 0, 7, 0, 9, 0, 0, 0, 0, 0, 9))
	p.again(7)
	p.shows(api.Status{On: true, Version: 7, Kept: 7})
	p.holds(1, raw(10, 0, 0, 0, 8, 32, 0, 7, 0, 9, 0, 0, 0, 0, 0, 10))
	p.again(7)
	p.holds(1, raw(10, 0, 0, 0, 8, 32, 0, 7, 0, 9, 0, 0, 0, 0, 0, 10))
	p.fails(api.Confirm, 0, "", api.ErrIdle)
	p.goes(api.Infer, 0, words(21), api.Reply{Version: 7, Text: words(42), Ask: -1})
}

// TestP13Age: a Boot makes the trial young again.
func TestP13Age(t *testing.T) {
	for _, ticks := range []int{0, 1, 4} {
		p := paired(t, "key", double, 7)
		p.tried(toSquare(9, 7))
		for range 3 {
			for range ticks {
				p.ok(api.Tick, 0, "", 9)
			}
			p.again(9)
		}
		for range 4 {
			p.ok(api.Tick, 0, "", 9)
		}
		p.ok(api.Tick, 0, "", 7)
		p.shows(api.Status{On: true, Version: 7, Kept: 7})
	}
}

func TestP14Steady(t *testing.T) {
	p := paired(t, "key", double, 7)
	for range 40 {
		p.ok(api.Tick, 0, "", 7)
	}
	p.holds(1, "")
	p.offered(toSquare(9, 7))
	p.asks(0)
}

func TestP14Trial(t *testing.T) {
	p := paired(t, "key", double, 7)
	for n := range 3 {
		p.tried(toSquare(9, 7))
		for range 4 {
			p.ok(api.Tick, 0, "", 9)
			p.shows(api.Status{On: true, Phase: 2, Slot: 1, Version: 9, Kept: 7, Tries: 3})
		}
		p.ok(api.Tick, 0, "", 7)
		p.shows(api.Status{On: true, Version: 7, Kept: 7})
		number := 1 + 6*(n+1)
		p.holds(1-number%2, raw(number, 0, 0, 0, 8, 32, 0, 7, 0, 9, 0, 0, 0, 0, 0, number))
	}
}

// TestP14Tried: the window's end takes the tries that are left.
func TestP14Tried(t *testing.T) {
	p := paired(t, "key", double, 7)
	p.tried(toSquare(9, 7))
	p.again(9)
	for range 4 {
		p.ok(api.Tick, 0, "", 9)
	}
	p.ok(api.Tick, 0, "", 7)
	p.holds(1, raw(8, 0, 0, 0, 8, 32, 0, 7, 0, 9, 0, 0, 0, 0, 0, 8))
}

func TestP14Asks(t *testing.T) {
	p := paired(t, "key", double, 7)
	u := toSquare(9, 7)
	p.offered(u)
	for i := 1; i <= 50; i++ {
		p.asks(asked(i, 0))
	}
	p.ok(api.Chunk, 1, u.chunks()[1], 7)
	for i := 1; i <= 3; i++ {
		p.asks(asked(i, 0))
	}
	// A chunk that is there, or that is none, leaves the wait as it is.
	p.ok(api.Chunk, 1, u.chunks()[1], 7)
	p.fails(api.Chunk, 0, u.chunks()[1], api.ErrChunk)
	for i := 4; i <= 12; i++ {
		p.asks(asked(i, 0))
	}
	p.ok(api.Chunk, 0, u.chunks()[0], 7)
	for i := 1; i <= 33; i++ {
		p.asks(asked(i, 2))
	}
	// So does an offer that is refused; one that is not begins anew.
	p.fails(api.Offer, 0, "", api.ErrManifest)
	p.fails(api.Offer, 0, toSquare(7, 7).manifest("key"), api.ErrVersion)
	for i := 34; i <= 41; i++ {
		p.asks(asked(i, 2))
	}
	p.offered(u)
	for i := 1; i <= 17; i++ {
		p.asks(asked(i, 0))
	}
}

// TestP14LeastChunk: each set of chunks that may be there, of six.
func TestP14LeastChunk(t *testing.T) {
	u := update{version: 9, base: 7, patch: plainly(large) + raw(1, 0, 1, 0, 1, 0, 1, 0, 1, 0, 1, 0, 1, 0), image: large, example: raw(0)}
	if len(u.chunks()) != 6 || len(u.patch) != 96 {
		t.Fatal("no patch of 96 bytes")
	}
	for set := range 64 {
		p := paired(t, "key", double, 7)
		p.offered(u)
		least, missing := -1, 0
		for i := 5; i >= 0; i-- {
			if set>>i%2 == 1 {
				p.ok(api.Chunk, i, u.chunks()[i], 7)
				continue
			}
			least = i
			missing++
		}
		p.shows(api.Status{On: true, Phase: 1, Version: 7, Kept: 7, Missing: missing})
		if least < 0 {
			p.ok(api.Tick, 0, "", 9)
			continue
		}
		p.asks(least)
		p.again(7)
		p.asks(least)
	}
}

func TestP15(t *testing.T) {
	p := paired(t, "key", double, 7)
	for _, v := range wide {
		p.goes(api.Infer, 0, words(v), api.Reply{Version: 7, Text: evalTwice(double, []int{v}), Ask: -1})
	}
	wrong := []string{"", "x", words(1) + "x", words(1, 2), huge[0], words(1, 2, 3, 4)}
	for _, s := range wrong {
		p.fails(api.Infer, 0, s, api.ErrInput)
	}
	two := "M" + raw(2, 1, 2, 2, 0, 1, 2, 0) // the difference, and the first
	u := update{version: 8, base: 7, patch: plainly(two), image: two, example: raw(0)}
	p.given(u)
	p.goes(api.Infer, 0, words(5), api.Reply{Version: 7, Text: words(10), Ask: -1})
	p.fails(api.Infer, 0, words(5, 3), api.ErrInput)
	p.ok(api.Tick, 0, "", 8)
	p.goes(api.Infer, 0, words(5, 3), api.Reply{Version: 8, Text: words(2, 5), Ask: -1})
	p.fails(api.Infer, 0, words(5), api.ErrInput)
	p.ok(api.Confirm, 0, "", 8)
	p.goes(api.Infer, 0, words(3, 5), api.Reply{Version: 8, Text: words(-2, 3), Ask: -1})
	p.fails(api.Infer, 0, words(5), api.ErrInput)
	// The number of an Infer tells nothing.
	p.goes(api.Infer, -5, words(3, 5), api.Reply{Version: 8, Text: words(-2, 3), Ask: -1})
}

// TestP15LeavesTheAge: only ticks make a trial older.
func TestP15LeavesTheAge(t *testing.T) {
	p := paired(t, "key", double, 7)
	p.tried(toSquare(9, 7))
	for range 4 {
		p.ok(api.Tick, 0, "", 9)
		for range 10 {
			p.goes(api.Infer, 0, words(12), api.Reply{Version: 9, Text: words(144), Ask: -1})
			p.fails(api.Offer, 0, "", api.ErrBusy)
		}
	}
	p.ok(api.Tick, 0, "", 7)
}

func TestP18(t *testing.T) {
	p := paired(t, "key", double, 7)
	p.fails(api.Confirm, 0, "", api.ErrIdle)
	u := toSquare(9, 7)
	p.offered(u)
	p.fails(api.Confirm, 0, "", api.ErrIdle)
	p.again(7)
	for i, c := range u.chunks() {
		p.ok(api.Chunk, i, c, 7)
	}
	p.fails(api.Confirm, 0, "", api.ErrIdle)
	p.ok(api.Tick, 0, "", 9)
	p.ok(api.Confirm, -1, "anything", 9)
	p.holds(0, raw(7, 1, 0, 0, 8, 32, 0, 7, 0, 9, 0, 0, 0, 0, 0, 7))
	p.shows(api.Status{On: true, Slot: 1, Version: 9, Kept: 9})
	p.fails(api.Confirm, 0, "", api.ErrIdle)
	for range 9 {
		p.ok(api.Tick, 0, "", 9)
		p.again(9)
	}
	v := update{version: 65535, base: 9, patch: plainly(triple), image: triple, example: raw(0)}
	p.tried(v)
	p.holds(1, raw(10, 1, 2, 3, 11, 32, 255, 255, 0, 9, 0, 0, 0, 0, 0, 10))
	p.again(65535)
	for range 4 {
		p.ok(api.Tick, 0, "", 65535)
	}
	p.ok(api.Confirm, 0, "", 65535)
	p.shows(api.Status{On: true, Version: 65535, Kept: 65535})
	p.goes(api.Infer, 0, words(7), api.Reply{Version: 65535, Text: words(21), Ask: -1})
	// There is no version above this one.
	p.fails(api.Offer, 0, toSquare(65535, 65535).manifest("key"), api.ErrVersion)
	p.fails(api.Offer, 0, toSquare(0, 65535).manifest("key"), api.ErrVersion)
}
