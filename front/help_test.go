package front_test

import (
	"fmt"
	"math"
	"reflect"
	"testing"

	"atlas/api"
	"atlas/front"
	"atlas/shape"
	"atlas/wire"
)

// The document's bodies.
const (
	noughts = "T\xf0\xf0\xf0\xf0\x01\x40"     // of 64 noughts
	sevens  = "T\x17\xf0\xf0\xf0\xd0\x0f\xc8" // of two sevens and noughts
)

// The tiles of two blocks beside each other, and of the block of zoom 0.
var (
	k00  = tile(0, 0)
	k10  = tile(1, 0)
	k01  = tile(0, 1)
	k11  = tile(1, 1)
	k20  = tile(2, 0)
	k30  = tile(3, 0)
	k21  = tile(2, 1)
	k31  = tile(3, 1)
	root = api.Key{}
)

// extremes are numbers that nothing may be.
var extremes = []int{math.MinInt, math.MinInt + 1, math.MinInt32, -1001, -1, 1<<30 + 1, math.MaxInt32, math.MaxInt - 1, math.MaxInt}

// tile is the key of a tile of land at zoom 22.
func tile(x int, y int) api.Key { return api.Key{Z: 22, X: x, Y: y} }

// path of a key, by the document's words.
func path(k api.Key) string {
	return fmt.Sprintf("/%s/%d/%d/%d.tile", []string{"land", "water", "road", "mark"}[k.Layer], k.Z, k.X, k.Y)
}

// tag of a key at a version, by the document's words.
func tag(k api.Key, version int) string { return fmt.Sprintf("%s@%d", path(k), version) }

// body of a key's tile, of features.
func body(t *testing.T, k api.Key, fs ...api.Feature) string {
	t.Helper()
	inks, e := shape.Paint(fs, k)
	if e != api.OK {
		t.Fatalf("Paint(%+v, %+v): %d", fs, k, e)
	}
	b, e := wire.Pack(inks)
	if e != api.OK {
		t.Fatalf("Pack(%x): %d", inks, e)
	}
	return b
}

// strip is the document's area: two pixels of the tile k00, ink 7.
func strip(id int) api.Feature {
	f := api.Feature{Id: id, Ink: 7, N: 4}
	f.Xs = [8]int{0, 64, 64, 0}
	f.Ys = [8]int{0, 0, 32, 32}
	return f
}

// inside is an area whose box lies in the inner of the square of a key of zoom 22, so that it touches that one alone there.
func inside(id int, k api.Key) api.Feature {
	f := api.Feature{Id: id, Layer: k.Layer, Ink: 1 + id%15, From: 22, N: 3}
	f.Xs = [8]int{256*k.X + 10, 256*k.X + 200, 256*k.X + 10}
	f.Ys = [8]int{256*k.Y + 10, 256*k.Y + 10, 256*k.Y + 200}
	return f
}

// block4 is the four tiles of the block of k00, in the order in which they are laid into the cache.
func block4() []api.Key { return []api.Key{k00, k10, k01, k11} }

func put(f api.Feature) api.Edit { return api.Edit{Op: api.Put, F: f} }

func drop(id int) api.Edit { return api.Edit{Op: api.Drop, F: api.Feature{Id: id}} }

// config of the document's examples.
var small = api.Config{Queue: 2, Workers: 1, Wait: 3, Cache: 100, Chunk: 2}

// wide is a front with room for all that a test does.
var wide = api.Config{Queue: 8, Workers: 4, Wait: 50, Cache: 2000, Chunk: 8}

func made(t *testing.T, c api.Config) *front.Front {
	t.Helper()
	f, e := front.New(c)
	if f == nil || e != api.OK {
		t.Fatalf("P14: New(%+v) = %v, %d", c, f, e)
	}
	return f
}

func alike(a []api.Reply, b []api.Reply) bool {
	return len(a) == 0 && len(b) == 0 || reflect.DeepEqual(a, b)
}

// arrives: the request for a key has this number and this reply, if there is one.
func arrives(t *testing.T, f *front.Front, k api.Key, with string, who int, want ...api.Reply) {
	t.Helper()
	comes(t, f, path(k), with, who, want...)
}

// comes is arrives, of a path.
func comes(t *testing.T, f *front.Front, path string, with string, who int, want ...api.Reply) {
	t.Helper()
	n, replies := f.Arrive(path, with)
	if n != who || !alike(replies, want) {
		t.Fatalf("P15: Arrive(%q, %q) = %d, %+v, want %d, %+v", path, with, n, replies, who, want)
	}
}

func works(t *testing.T, f *front.Front, worker int, want ...api.Reply) {
	t.Helper()
	if replies := f.Work(worker); !alike(replies, want) {
		t.Fatalf("P16: Work(%d) = %+v, want %+v", worker, replies, want)
	}
}

// idles: a call of Work changes nothing.
func idles(t *testing.T, f *front.Front, worker int) {
	t.Helper()
	before, flights := f.Look(), f.Flights()
	works(t, f, worker)
	looks(t, f, before)
	flies(t, f, flights...)
}

func writes(t *testing.T, f *front.Front, want int, batch ...api.Edit) {
	t.Helper()
	if n, e := f.Write(batch); n != want || e != api.OK {
		t.Fatalf("P17: Write(%+v) = %d, %d, want %d", batch, n, e, want)
	}
}

func ticks(t *testing.T, f *front.Front, want ...api.Reply) {
	t.Helper()
	if replies := f.Tick(); !alike(replies, want) {
		t.Fatalf("P18: Tick() = %+v, want %+v", replies, want)
	}
}

func looks(t *testing.T, f *front.Front, want api.Look) {
	t.Helper()
	if look := f.Look(); look != want {
		t.Fatalf("P19: Look() = %+v, want %+v", look, want)
	}
}

func flies(t *testing.T, f *front.Front, want ...api.Flight) {
	t.Helper()
	if flights := f.Flights(); len(flights)+len(want) > 0 && !reflect.DeepEqual(flights, want) {
		t.Fatalf("P19: Flights() = %+v, want %+v", flights, want)
	}
}

// inLine is a flight in the line.
func inLine(block api.Key, waiting int) api.Flight {
	return api.Flight{Key: block, Worker: -1, Reads: -1, Waiting: waiting}
}

func fine(who int, k api.Key, body string, version int) api.Reply {
	return api.Reply{Who: who, Status: 200, Body: body, Tag: tag(k, version)}
}

func same(who int, k api.Key, version int) api.Reply {
	return api.Reply{Who: who, Status: 304, Tag: tag(k, version)}
}

func bad(who int) api.Reply     { return api.Reply{Who: who, Status: 400} }
func missing(who int) api.Reply { return api.Reply{Who: who, Status: 404} }
func full(who int) api.Reply    { return api.Reply{Who: who, Status: 503} }
func late(who int) api.Reply    { return api.Reply{Who: who, Status: 504} }

// painted lets worker 0 paint the block of a key for a request of its own; the front must have few features.
func painted(t *testing.T, f *front.Front, k api.Key) {
	t.Helper()
	who, replies := f.Arrive(path(k), "")
	if len(replies) > 0 {
		t.Fatalf("P15: Arrive(%q) = %d, %+v, want no reply", path(k), who, replies)
	}
	f.Work(0)
	for i := 0; i < 41 && len(replies) == 0; i++ {
		replies = f.Work(0)
	}
	if len(replies) != 1 || replies[0].Who != who || replies[0].Status != 200 {
		t.Fatalf("P16: the request %d for %q is answered %+v", who, path(k), replies)
	}
}

// cached tells which of some keys the cache has, without a use of the others' entries; the requests for those that it has not wait, so this is for the end of a test.
func cached(t *testing.T, f *front.Front, keys ...api.Key) []api.Key {
	t.Helper()
	var there []api.Key
	for _, k := range keys {
		_, replies := f.Arrive(path(k), "")
		if len(replies) == 1 && replies[0].Status == 200 {
			there = append(there, k)
		}
	}
	return there
}

// wantCached wants just these of some keys in the cache, at the end of a test.
func wantCached(t *testing.T, f *front.Front, keys []api.Key, want ...api.Key) {
	t.Helper()
	entries := f.Look().Entries
	if there := cached(t, f, keys...); len(there)+len(want) > 0 && !reflect.DeepEqual(there, want) {
		t.Fatalf("P16: the cache has %v, want %v", there, want)
	}
	if entries != len(want) {
		t.Fatalf("P16: the cache has %d entries, want %d", entries, len(want))
	}
}
