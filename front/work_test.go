package front_test

import (
	"testing"

	"atlas/api"
	"atlas/front"
)

// stocked is a front with the features 1 to n, each of them strip, so that k00 has the body sevens if there is one.
func stocked(t *testing.T, c api.Config, n int) *front.Front {
	t.Helper()
	f := made(t, c)
	var batch []api.Edit
	for id := 1; id <= n; id++ {
		batch = append(batch, put(strip(id)))
		if len(batch) == 8 || id == n {
			writes(t, f, f.Look().Version+1, batch...)
			batch = nil
		}
	}
	return f
}

// TestWorkNone: P16, a worker that is none: nothing happens, whatever there is to do.
func TestWorkNone(t *testing.T) {
	f := made(t, api.Config{Queue: 4, Workers: 2, Wait: 9, Cache: 28, Chunk: 8})
	for _, worker := range append([]int{2, 3, 4, 1000}, extremes...) {
		idles(t, f, worker)
	}
	arrives(t, f, k00, "", 0)
	for _, worker := range append([]int{2, 3, 4, 1000}, extremes...) {
		idles(t, f, worker)
	}
	works(t, f, 1)
	arrives(t, f, k20, "", 1)
	for _, worker := range append([]int{2, 3, 4, 1000}, extremes...) {
		idles(t, f, worker)
	}
	works(t, f, 1, fine(0, k00, noughts, 0))
}

// TestWorkIdle: P16, an idle worker without a line, and with one, from which it takes the head.
func TestWorkIdle(t *testing.T) {
	f := made(t, api.Config{Queue: 4, Workers: 3, Wait: 9, Cache: 28, Chunk: 8})
	idles(t, f, 0)
	idles(t, f, 2)
	arrives(t, f, k00, "", 0)
	arrives(t, f, root, "", 1)
	arrives(t, f, k20, "", 2)
	works(t, f, 2)
	flies(t, f, api.Flight{Key: k00, Worker: 2, Left: 1, Waiting: 1}, inLine(root, 1), inLine(k20, 1))
	looks(t, f, api.Look{Arrived: 3, Waiting: 3, Line: 2, Busy: 1, Started: 1})
	works(t, f, 0)
	works(t, f, 1)
	flies(t, f, api.Flight{Key: root, Worker: 0, Left: 1, Waiting: 1}, api.Flight{Key: k20, Worker: 1, Left: 1, Waiting: 1}, api.Flight{Key: k00, Worker: 2, Left: 1, Waiting: 1})
	looks(t, f, api.Look{Arrived: 3, Waiting: 3, Busy: 3, Started: 3})
	works(t, f, 1, fine(2, k20, noughts, 0))
	// It is idle again, and there is no line.
	idles(t, f, 1)
	flies(t, f, api.Flight{Key: root, Worker: 0, Left: 1, Waiting: 1}, api.Flight{Key: k00, Worker: 2, Left: 1, Waiting: 1})
	works(t, f, 0, fine(1, root, noughts, 0))
	works(t, f, 2, fine(0, k00, noughts, 0))
	idles(t, f, 2)
	looks(t, f, api.Look{Arrived: 3, Entries: 4, Bytes: 28, Started: 3})
}

// TestWorkSteps: P16, how many steps a flight has: none for the taking, one for each chunk, at least one.
func TestWorkSteps(t *testing.T) {
	for chunk := 1; chunk <= 8; chunk++ {
		for _, n := range []int{0, 1, chunk - 1, chunk, chunk + 1, 2 * chunk, 2*chunk + 1, 39, 40} {
			f := stocked(t, api.Config{Queue: 1, Workers: 1, Wait: 1, Cache: 28, Chunk: chunk}, n)
			version := (n + 7) / 8
			steps := max(1, (n+chunk-1)/chunk)
			arrives(t, f, k00, "", 0)
			works(t, f, 0)
			for left := steps; left > 1; left-- {
				flies(t, f, api.Flight{Key: k00, Reads: version, Left: left, Waiting: 1})
				works(t, f, 0)
			}
			flies(t, f, api.Flight{Key: k00, Reads: version, Left: 1, Waiting: 1})
			looks(t, f, api.Look{Version: version, Arrived: 1, Waiting: 1, Busy: 1, Started: 1})
			if n == 0 {
				works(t, f, 0, fine(0, k00, noughts, 0))
			} else {
				works(t, f, 0, fine(0, k00, sevens, version))
			}
			flies(t, f)
		}
	}
}

// TestWorkAllFeatures: P16, features of every chunk are in the tiles, of all layers only those of the key.
func TestWorkAllFeatures(t *testing.T) {
	for chunk := 1; chunk <= 8; chunk++ {
		f := made(t, api.Config{Queue: 4, Workers: 1, Wait: 1, Cache: 0, Chunk: chunk})
		var fs []api.Feature
		var batch []api.Edit
		for i := 0; i < 40; i++ {
			// Five to a row of k00, and on the layer of water at every fourth; the Ids have gaps.
			g := api.Feature{Id: 1000 - 25*i, Ink: 1 + i%15, From: 22, N: 4}
			x, y := 32*(i%5), 32*(i/5)
			g.Xs = [8]int{x, x + 32, x + 32, x}
			g.Ys = [8]int{y, y, y + 32, y + 32}
			if i%4 == 3 {
				g.Layer = 1
			}
			fs = append(fs, g)
			if batch = append(batch, put(g)); len(batch) == 8 {
				writes(t, f, i/8+1, batch...)
				batch = nil
			}
		}
		water := api.Key{Layer: 1, Z: 22}
		arrives(t, f, k00, "", 0)
		arrives(t, f, water, "", 1)
		works(t, f, 0)
		for i := 1; i < (40+chunk-1)/chunk; i++ {
			works(t, f, 0)
		}
		works(t, f, 0, fine(0, k00, body(t, k00, fs...), 5))
		works(t, f, 0)
		for i := 1; i < (40+chunk-1)/chunk; i++ {
			works(t, f, 0)
		}
		works(t, f, 0, fine(1, water, body(t, water, fs...), 5))
	}
}

// TestWorkReads: P16, a flight reads the version at which it was taken, whatever is written later.
func TestWorkReads(t *testing.T) {
	for steps := 0; steps < 3; steps++ {
		f := stocked(t, api.Config{Queue: 4, Workers: 1, Wait: 9, Cache: 100, Chunk: 2}, 6)
		arrives(t, f, k00, "", 0)
		arrives(t, f, k10, "", 1)
		works(t, f, 0)
		for i := 0; i < steps; i++ {
			works(t, f, 0)
		}
		// What was there goes, and what was not there comes, ahead of, among and behind the Ids that were read.
		writes(t, f, 2, drop(1), drop(2), drop(3), drop(4), drop(5), drop(6), put(inside(7, k00)), put(inside(8, k10)))
		writes(t, f, 3, put(inside(1, k11)), put(inside(4, k00)))
		for i := steps; i < 2; i++ {
			flies(t, f, api.Flight{Key: k00, Reads: 1, Left: 3 - i, Waiting: 2})
			works(t, f, 0)
		}
		flies(t, f, api.Flight{Key: k00, Reads: 1, Left: 1, Waiting: 2})
		works(t, f, 0, fine(0, k00, sevens, 1), fine(1, k10, noughts, 0))
		// k01 alone is as it was.
		looks(t, f, api.Look{Version: 3, Arrived: 2, Entries: 1, Bytes: 7, Started: 1})
		arrives(t, f, k01, "", 2, fine(2, k01, noughts, 0))
		// The steps to go were told when the flight was taken; the next one has its own.
		arrives(t, f, k00, "", 3)
		works(t, f, 0)
		flies(t, f, api.Flight{Key: k00, Reads: 3, Left: 2, Waiting: 1})
		works(t, f, 0)
		works(t, f, 0, fine(3, k00, body(t, k00, inside(7, k00), inside(4, k00)), 3))
	}
}

// TestWorkManyVersions: P16, four flights that read four versions, all of them long gone.
func TestWorkManyVersions(t *testing.T) {
	f := made(t, api.Config{Queue: 8, Workers: 4, Wait: 50, Cache: 2000, Chunk: 1})
	for worker := 0; worker < 4; worker++ {
		k := tile(2*worker, 0)
		arrives(t, f, k, "", worker)
		writes(t, f, worker+1, put(inside(1, k)))
		works(t, f, worker)
	}
	for v := 5; v <= 100; v++ {
		writes(t, f, v, put(inside(1, tile(1+2*(v%4), 1))))
	}
	for worker := 3; worker >= 0; worker-- {
		k := tile(2*worker, 0)
		works(t, f, worker, fine(worker, k, body(t, k, inside(1, k)), worker+1))
	}
	looks(t, f, api.Look{Version: 100, Arrived: 4, Entries: 8, Bytes: 56, Started: 4})
	flies(t, f)
	// And again, with the workers as often as they like: no version stays taken.
	for i := 0; i < 40; i++ {
		k := tile(100+2*i, 0)
		arrives(t, f, k, "", 4+i)
		works(t, f, i%4)
		works(t, f, i%4, fine(4+i, k, noughts, 0))
	}
}

// TestWorkAnswers: P16, which requests are answered when a Write came between: those ahead of it, and those behind it whose tile it does not touch.
func TestWorkAnswers(t *testing.T) {
	f := made(t, api.Config{Queue: 8, Workers: 1, Wait: 9, Cache: 100, Chunk: 8})
	arrives(t, f, k00, "", 0)
	arrives(t, f, k10, "", 1)
	works(t, f, 0)
	arrives(t, f, k00, "", 2) // behind the taking, ahead of the Write
	writes(t, f, 1, put(strip(1)))
	arrives(t, f, k00, "", 3)
	arrives(t, f, k11, "", 4)
	arrives(t, f, k00, "", 5)
	arrives(t, f, k01, "", 6)
	flies(t, f, api.Flight{Key: k00, Left: 1, Waiting: 7})
	works(t, f, 0, fine(0, k00, noughts, 0), fine(1, k10, noughts, 0), fine(2, k00, noughts, 0), fine(4, k11, noughts, 0), fine(6, k01, noughts, 0))
	flies(t, f, inLine(k00, 2))
	looks(t, f, api.Look{Version: 1, Arrived: 7, Waiting: 2, Line: 1, Entries: 3, Bytes: 21, Started: 1})
	works(t, f, 0)
	works(t, f, 0, fine(3, k00, sevens, 1), fine(5, k00, sevens, 1))
	looks(t, f, api.Look{Version: 1, Arrived: 7, Entries: 4, Bytes: 29, Started: 2})
}

// TestWorkAnswersElsewhere: P16, a Write that touches no tile of the block, be it near, on another layer or of another zoom.
func TestWorkAnswersElsewhere(t *testing.T) {
	water := inside(3, k00)
	water.Layer = 1
	for _, other := range []api.Feature{inside(1, k20), inside(2, tile(0, 2)), water} {
		f := made(t, api.Config{Queue: 8, Workers: 1, Wait: 9, Cache: 100, Chunk: 8})
		arrives(t, f, k00, "", 0)
		works(t, f, 0)
		writes(t, f, 1, put(other))
		arrives(t, f, k00, "", 1)
		arrives(t, f, k11, "", 2)
		works(t, f, 0, fine(0, k00, noughts, 0), fine(1, k00, noughts, 0), fine(2, k11, noughts, 0))
		flies(t, f)
		looks(t, f, api.Look{Version: 1, Arrived: 3, Entries: 4, Bytes: 28, Started: 1})
	}
	// A feature that shows from zoom 22 on touches no tile of zoom 21.
	f := made(t, api.Config{Queue: 8, Workers: 1, Wait: 9, Cache: 100, Chunk: 8})
	k := api.Key{Z: 21}
	arrives(t, f, k, "", 0)
	works(t, f, 0)
	writes(t, f, 1, put(inside(1, k00)))
	arrives(t, f, k, "", 1)
	works(t, f, 0, fine(0, k, noughts, 0), fine(1, k, noughts, 0))
}

// TestWorkAnswersTouched: P16, a Write that touches a tile and leaves its picture alike counts as a change.
func TestWorkAnswersTouched(t *testing.T) {
	speck := api.Feature{Id: 1, Ink: 3, N: 3} // it covers no pixel's centre
	for _, batch := range [][]api.Edit{{put(speck)}, {put(strip(1)), drop(1)}} {
		f := made(t, api.Config{Queue: 8, Workers: 1, Wait: 9, Cache: 100, Chunk: 8})
		arrives(t, f, k00, "", 0)
		works(t, f, 0)
		writes(t, f, 1, batch...)
		arrives(t, f, k00, "", 1)
		works(t, f, 0, fine(0, k00, noughts, 0))
		flies(t, f, inLine(k00, 1))
		works(t, f, 0)
		works(t, f, 0, fine(1, k00, noughts, 1))
	}
}

// TestWorkAgain: P16, a flight goes to the end of the line again and again, as long as Writes come between; the requests ahead of them are answered each time.
func TestWorkAgain(t *testing.T) {
	f := made(t, api.Config{Queue: 8, Workers: 1, Wait: 50, Cache: 0, Chunk: 8})
	arrives(t, f, k00, "", 0)
	works(t, f, 0)
	for v := 1; v <= 20; v++ {
		edit, then := put(strip(1)), noughts
		if v%2 == 0 {
			edit, then = drop(1), sevens
		}
		writes(t, f, v, edit)
		arrives(t, f, k00, "", v)
		works(t, f, 0, fine(v-1, k00, then, v-1))
		flies(t, f, inLine(k00, 1))
		works(t, f, 0)
		flies(t, f, api.Flight{Key: k00, Reads: v, Left: 1, Waiting: 1})
		looks(t, f, api.Look{Version: v, Arrived: v + 1, Waiting: 1, Busy: 1, Started: v + 1})
	}
	works(t, f, 0, fine(20, k00, noughts, 20))
	flies(t, f)
}

// TestWorkEndOfLine: P16, a flight for which requests still wait goes behind those that stand in the line.
func TestWorkEndOfLine(t *testing.T) {
	f := made(t, api.Config{Queue: 8, Workers: 2, Wait: 50, Cache: 0, Chunk: 8})
	arrives(t, f, k00, "", 0)
	arrives(t, f, k20, "", 1)
	arrives(t, f, root, "", 2)
	works(t, f, 0)
	writes(t, f, 1, put(strip(1)))
	arrives(t, f, k00, "", 3)
	works(t, f, 0, fine(0, k00, noughts, 0))
	flies(t, f, inLine(k20, 1), inLine(root, 1), inLine(k00, 1))
	// It is one flight as before: who comes now joins it.
	arrives(t, f, k10, "", 4)
	flies(t, f, inLine(k20, 1), inLine(root, 1), inLine(k00, 2))
	arrives(t, f, tile(8, 8), "", 5)
	flies(t, f, inLine(k20, 1), inLine(root, 1), inLine(k00, 2), inLine(tile(8, 8), 1))
	works(t, f, 0)
	works(t, f, 1)
	works(t, f, 0, fine(1, k20, noughts, 0))
	works(t, f, 0)
	flies(t, f, api.Flight{Key: k00, Worker: 0, Reads: 1, Left: 1, Waiting: 2}, api.Flight{Key: root, Worker: 1, Reads: 1, Left: 1, Waiting: 1}, inLine(tile(8, 8), 1))
}

// TestWorkEnds: P16, a flight for which nobody waits any longer is painted to its end, and ends; its tiles are in the cache.
func TestWorkEnds(t *testing.T) {
	f := made(t, api.Config{Queue: 2, Workers: 1, Wait: 1, Cache: 28, Chunk: 1})
	writes(t, f, 1, put(inside(1, k20)), put(inside(2, k20)))
	arrives(t, f, k00, "", 0)
	works(t, f, 0)
	ticks(t, f, late(0))
	works(t, f, 0)
	flies(t, f, api.Flight{Key: k00, Reads: 1, Left: 1})
	works(t, f, 0)
	flies(t, f)
	looks(t, f, api.Look{Version: 1, Now: 1, Arrived: 1, Entries: 4, Bytes: 28, Started: 1})
	arrives(t, f, k00, "", 1, fine(1, k00, noughts, 0))
}

// TestWorkTags: P16, the tag has the stamp of the key at the version that is read, not that version and not a later stamp.
func TestWorkTags(t *testing.T) {
	f := made(t, api.Config{Queue: 8, Workers: 1, Wait: 50, Cache: 100, Chunk: 8})
	writes(t, f, 1, put(strip(1)))
	writes(t, f, 2, put(inside(2, k10)))
	writes(t, f, 3, put(inside(3, k20)))
	for i, k := range block4() {
		arrives(t, f, k, "", i)
	}
	works(t, f, 0)
	writes(t, f, 4, put(inside(4, k00)))
	writes(t, f, 5, drop(2))
	works(t, f, 0, fine(0, k00, sevens, 1), fine(1, k10, body(t, k10, inside(2, k10)), 2), fine(2, k01, noughts, 0), fine(3, k11, noughts, 0))
	// Out of the cache the tags are the same.
	arrives(t, f, k01, "", 4, fine(4, k01, noughts, 0))
	arrives(t, f, k11, tag(k01, 0), 5, fine(5, k11, noughts, 0))
	arrives(t, f, k10, "", 6)
	works(t, f, 0)
	works(t, f, 0, fine(6, k10, noughts, 5))
	arrives(t, f, k10, "", 7, fine(7, k10, noughts, 5))
	arrives(t, f, k00, "", 8, fine(8, k00, body(t, k00, strip(1), inside(4, k00)), 4))
}

// TestWorkRoot: P16, the block of zoom 0 has one tile, those of zoom 1 and more have four.
func TestWorkRoot(t *testing.T) {
	for layer := 0; layer < 4; layer++ {
		for zoom := 0; zoom <= 22; zoom++ {
			f := made(t, wide)
			k := api.Key{Layer: layer, Z: zoom, X: 1<<zoom - 1, Y: 1<<zoom - 1}
			painted(t, f, k)
			want := []api.Key{{Layer: layer}}
			if zoom > 0 {
				want = []api.Key{k, k, k, k}
				want[0].X, want[0].Y = k.X-1, k.Y-1
				want[1].Y = k.Y - 1
				want[2].X = k.X - 1
			}
			looks(t, f, api.Look{Arrived: 1, Started: 1, Entries: len(want), Bytes: 7 * len(want)})
			wantCached(t, f, want, want...)
		}
	}
}
