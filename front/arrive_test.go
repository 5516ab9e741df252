package front_test

import (
	"strings"
	"testing"

	"atlas/api"
	"atlas/front"
)

// TestArriveNumbers: P15, the numbers of the requests, whatever the replies are and whatever is called between.
func TestArriveNumbers(t *testing.T) {
	f := made(t, api.Config{Queue: 1, Workers: 1, Wait: 1, Cache: 7, Chunk: 1})
	arrives(t, f, root, "", 0)
	comes(t, f, "", "", 1, bad(1))
	comes(t, f, "/sea/0/0/0.tile", "", 2, missing(2))
	arrives(t, f, root, tag(root, 0), 3, same(3, root, 0))
	arrives(t, f, root, "", 4, full(4))
	works(t, f, 0)
	works(t, f, 0, fine(0, root, noughts, 0))
	arrives(t, f, root, "", 5, fine(5, root, noughts, 0))
	arrives(t, f, k00, "", 6)
	ticks(t, f, late(6))
	writes(t, f, 1, put(strip(1)))
	f.Write(nil)
	f.Look()
	f.Flights()
	arrives(t, f, k00, "", 7)
	if look := f.Look(); look.Arrived != 8 {
		t.Errorf("P19: Arrived is %d, want 8", look.Arrived)
	}
	// Another front begins at 0 again.
	arrives(t, made(t, small), k00, "", 0)
}

// TestArriveRefused: P15, a path with each of the errors of Parse.
func TestArriveRefused(t *testing.T) {
	f := made(t, wide)
	who := 0
	for _, wrong := range []string{"", "/", "land/0/0/0.tile", "/Land/0/0/0.tile", "/land/0/0/0", "/land/00/0/0.tile", "/land/0/0/0.tile ", "/land/1234567890/0/0.tile", "/landlands/0/0/0.tile", "/sea/0/0", "\x00", "/land/0/0/0.tile@0", "/land/0/-1/0.tile", strings.Repeat("/", 100000)} {
		for _, with := range []string{"", "@0", wrong, wrong + "@0", tag(k00, 0)} {
			comes(t, f, wrong, with, who, bad(who))
			who++
		}
	}
	for _, wrong := range []string{"/sea/0/0/0.tile", "/sea/23/9/9.tile", "/landland/0/0/0.tile", "/land/23/0/0.tile", "/mark/999999999/0/0.tile", "/land/0/1/0.tile", "/land/0/0/1.tile", "/mark/22/4194304/0.tile", "/road/22/0/4194304.tile", "/water/3/8/0.tile"} {
		for _, with := range []string{"", "@0", wrong, wrong + "@0", tag(k00, 0)} {
			comes(t, f, wrong, with, who, missing(who))
			who++
		}
	}
	looks(t, f, api.Look{Arrived: who})
	flies(t, f)
	// The edges that there are.
	for i, k := range []api.Key{{Layer: 3, Z: 22, X: 4194303}, {Layer: 2, Z: 22, Y: 4194303}, {Layer: 1, Z: 3, X: 7, Y: 7}, {}} {
		arrives(t, f, k, "", who+i)
	}
	if n := f.Look().Waiting; n != 4 {
		t.Errorf("P15: %d requests wait, want 4", n)
	}
}

// TestArriveSame: P15, the present tag of a key, and tags that are not.
func TestArriveSame(t *testing.T) {
	f := made(t, wide)
	arrives(t, f, k00, tag(k00, 0), 0, same(0, k00, 0))
	arrives(t, f, api.Key{Layer: 3, Z: 22, X: 4194303, Y: 4194303}, "/mark/22/4194303/4194303.tile@0", 1, api.Reply{Who: 1, Status: 304, Tag: "/mark/22/4194303/4194303.tile@0"})
	looks(t, f, api.Look{Arrived: 2})
	writes(t, f, 1, put(strip(1)))
	writes(t, f, 2, put(inside(2, k20)))
	// The version of the last batch that touches the key, not the newest one.
	arrives(t, f, k00, tag(k00, 1), 2, same(2, k00, 1))
	arrives(t, f, k20, tag(k20, 2), 3, same(3, k20, 2))
	arrives(t, f, k10, tag(k10, 0), 4, same(4, k10, 0))
	arrives(t, f, root, tag(root, 1), 5, same(5, root, 1))
	looks(t, f, api.Look{Version: 2, Arrived: 6})
	writes(t, f, 3, drop(1))
	arrives(t, f, k00, tag(k00, 3), 6, same(6, k00, 3))
	who := 7
	for _, with := range []string{"", "@3", "3", path(k00), path(k00) + "@", path(k00) + "@03", path(k00) + "@3 ", " " + path(k00) + "@3", tag(k00, 0), tag(k00, 1), tag(k00, 2), tag(k00, 4), tag(k00, 30), tag(k01, 3), tag(k10, 0), tag(api.Key{Layer: 1, Z: 22}, 0), "\xff", strings.Repeat("x", 100000)} {
		g := made(t, wide)
		writes(t, g, 1, put(strip(1)))
		writes(t, g, 2, put(inside(2, k20)))
		writes(t, g, 3, drop(1))
		arrives(t, g, k00, with, 0)
		looks(t, g, api.Look{Version: 3, Arrived: 1, Waiting: 1, Line: 1})
		// All of them wait here, too, but for those beyond the queue.
		if who < 15 {
			arrives(t, f, k00, with, who)
		} else {
			arrives(t, f, k00, with, who, full(who))
		}
		who++
	}
}

// filled is a front of Queue 1 with the block of k00 in its cache, and a request that waits for another block.
func filled(t *testing.T) *front.Front {
	t.Helper()
	f := made(t, api.Config{Queue: 1, Workers: 1, Wait: 9, Cache: 28, Chunk: 1})
	painted(t, f, k00)
	arrives(t, f, k20, "", 1)
	return f
}

// TestArriveFirst: P15, which of the cases comes first, where several apply.
func TestArriveFirst(t *testing.T) {
	f := filled(t)
	// A path that is refused: ahead of the tag and of the full queue.
	comes(t, f, "/land/22/0/0", tag(k00, 0), 2, bad(2))
	comes(t, f, "/land/22/4194304/0.tile", tag(k00, 0), 3, missing(3))
	// The present tag: ahead of the cache and of the full queue.
	arrives(t, f, k00, tag(k00, 0), 4, same(4, k00, 0))
	arrives(t, f, k20, tag(k20, 0), 5, same(5, k20, 0))
	arrives(t, f, root, tag(root, 0), 6, same(6, root, 0))
	// The cache: ahead of the full queue.
	arrives(t, f, k00, "", 7, fine(7, k00, noughts, 0))
	arrives(t, f, k11, tag(k00, 0), 8, fine(8, k11, noughts, 0))
	// The full queue: ahead of a flight that is there, and of one that would begin.
	arrives(t, f, k20, "", 9, full(9))
	arrives(t, f, k30, "", 10, full(10))
	arrives(t, f, root, "", 11, full(11))
	looks(t, f, api.Look{Arrived: 12, Waiting: 1, Line: 1, Entries: 4, Bytes: 28, Started: 1})
	flies(t, f, inLine(k20, 1))
	// Also where a worker has the flight.
	works(t, f, 0)
	arrives(t, f, k20, "", 12, full(12))
	works(t, f, 0, fine(1, k20, noughts, 0))
	arrives(t, f, root, "", 13)
}

// TestArriveUse: P15, a Fine reply out of the cache is a use of the entry; a Same reply, and a request that is refused or waits, is none.
func TestArriveUse(t *testing.T) {
	for _, use := range [][]api.Key{nil, {k00}, {k10, k00}, {k00, k10, k01}, {k11, k00, k01, k10}, {k11, k11, k00}, {k00, k10, k01, k11}} {
		f := made(t, api.Config{Queue: 8, Workers: 1, Wait: 9, Cache: 28, Chunk: 1})
		painted(t, f, k00)
		uses := map[api.Key]int{k00: 0, k10: 1, k01: 2, k11: 3}
		for i, k := range use {
			arrives(t, f, k, "no tag", i+1, fine(i+1, k, noughts, 0))
			uses[k] = 4 + i
		}
		for _, k := range block4() {
			f.Arrive(path(k), tag(k, 0))
			f.Arrive(path(k)+" ", "")
		}
		// One entry goes for that of zoom 0.
		painted(t, f, root)
		var gone api.Key
		least := 100
		for k, n := range uses {
			if n < least {
				gone, least = k, n
			}
		}
		var want []api.Key
		for _, k := range block4() {
			if k != gone {
				want = append(want, k)
			}
		}
		wantCached(t, f, append(block4(), root), append(want, root)...)
	}
}

// TestArriveWaits: P15, a request waits for a flight that is there, or for one that begins at the end of the line.
func TestArriveWaits(t *testing.T) {
	f := made(t, api.Config{Queue: 8, Workers: 2, Wait: 9, Cache: 0, Chunk: 1})
	far := api.Key{Z: 22, X: 4194302, Y: 4194302}
	arrives(t, f, k11, "", 0)
	flies(t, f, inLine(k00, 1))
	arrives(t, f, tile(4194303, 4194302), "", 1)
	flies(t, f, inLine(k00, 1), inLine(far, 1))
	arrives(t, f, k10, "", 2)
	flies(t, f, inLine(k00, 2), inLine(far, 1))
	works(t, f, 1)
	flies(t, f, api.Flight{Key: k00, Worker: 1, Left: 1, Waiting: 2}, inLine(far, 1))
	// For a flight that a worker has.
	arrives(t, f, k01, "", 3)
	flies(t, f, api.Flight{Key: k00, Worker: 1, Left: 1, Waiting: 3}, inLine(far, 1))
	arrives(t, f, k20, "", 4)
	arrives(t, f, tile(0, 2), "", 5)
	flies(t, f, api.Flight{Key: k00, Worker: 1, Left: 1, Waiting: 3}, inLine(far, 1), inLine(k20, 1), inLine(tile(0, 2), 1))
	looks(t, f, api.Look{Arrived: 6, Waiting: 6, Line: 3, Busy: 1, Started: 1})
	works(t, f, 1, fine(0, k11, noughts, 0), fine(2, k10, noughts, 0), fine(3, k01, noughts, 0))
	flies(t, f, inLine(far, 1), inLine(k20, 1), inLine(tile(0, 2), 1))
}

// TestArriveBlocks: P15, which tiles are of one block, and its own key.
func TestArriveBlocks(t *testing.T) {
	for _, c := range []struct {
		first, second api.Key
		own           api.Key
		one           bool
	}{
		{k00, k11, k00, true},
		{k11, k00, k00, true},
		{k10, k01, k00, true},
		{k10, k20, k00, false},
		{k01, tile(0, 2), k00, false},
		{k31, k20, k20, true},
		{tile(5, 3), tile(4, 2), tile(4, 2), true},
		{tile(5, 3), tile(3, 5), tile(4, 2), false},
		{tile(5, 3), tile(5, 4), tile(4, 2), false},
		{k00, api.Key{Layer: 1, Z: 22}, k00, false},
		{k00, api.Key{Z: 21}, k00, false},
		{root, api.Key{Z: 1}, root, false},
		{root, api.Key{Layer: 1}, root, false},
		{root, root, root, true},
		{api.Key{Z: 1, X: 1, Y: 1}, api.Key{Z: 1}, api.Key{Z: 1}, true},
		{api.Key{Layer: 3, Z: 2, X: 3, Y: 2}, api.Key{Layer: 3, Z: 2, X: 2, Y: 3}, api.Key{Layer: 3, Z: 2, X: 2, Y: 2}, true},
		{tile(4194303, 4194303), tile(4194302, 4194303), tile(4194302, 4194302), true},
	} {
		f := made(t, wide)
		arrives(t, f, c.first, "", 0)
		flies(t, f, inLine(c.own, 1))
		arrives(t, f, c.second, "", 1)
		if n := f.Look().Line; c.one != (n == 1) {
			t.Errorf("P15: %+v and %+v have %d flights", c.first, c.second, n)
		}
	}
}

// TestArriveKeeps: P15, a request keeps the present version and time of its own Arrive.
func TestArriveKeeps(t *testing.T) {
	f := made(t, api.Config{Queue: 8, Workers: 1, Wait: 2, Cache: 0, Chunk: 8})
	arrives(t, f, k00, "", 0)
	ticks(t, f)
	writes(t, f, 1, put(strip(1)))
	arrives(t, f, k00, "", 1)
	works(t, f, 0)
	writes(t, f, 2, drop(1))
	arrives(t, f, k00, "", 2)
	works(t, f, 0, fine(0, k00, sevens, 1), fine(1, k00, sevens, 1))
	ticks(t, f)
	ticks(t, f, late(2))
}

// TestExamples: the section Examples, the rows on a front.
func TestExamples(t *testing.T) {
	f := made(t, small)
	arrives(t, f, k00, "", 0)
	works(t, f, 0)
	works(t, f, 0, api.Reply{Who: 0, Status: 200, Body: noughts, Tag: "/land/22/0/0.tile@0"})
	looks(t, f, api.Look{Arrived: 1, Entries: 4, Bytes: 28, Started: 1})
	arrives(t, f, k11, "", 1, fine(1, k11, noughts, 0))
	arrives(t, f, k00, "/land/22/0/0.tile@0", 2, same(2, k00, 0))
	writes(t, f, 1, put(strip(1)))
	looks(t, f, api.Look{Version: 1, Arrived: 3, Entries: 3, Bytes: 21, Started: 1})
	arrives(t, f, k00, "/land/22/0/0.tile@0", 3)

	f = made(t, small)
	arrives(t, f, k00, "", 0)
	works(t, f, 0)
	writes(t, f, 1, put(strip(1)))
	arrives(t, f, k00, "", 1)
	works(t, f, 0, fine(0, k00, noughts, 0))
	flies(t, f, inLine(k00, 1))
	looks(t, f, api.Look{Version: 1, Arrived: 2, Waiting: 1, Line: 1, Entries: 3, Bytes: 21, Started: 1})
	works(t, f, 0)
	works(t, f, 0, fine(1, k00, sevens, 1))
}
