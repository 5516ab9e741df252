package front_test

import (
	"testing"

	"atlas/api"
	"atlas/front"
)

// withNumber is a right config but for one of its five numbers.
func withNumber(field int, n int) api.Config {
	c := api.Config{Queue: 3, Workers: 2, Wait: 5, Cache: 70, Chunk: 4}
	*[]*int{&c.Queue, &c.Workers, &c.Wait, &c.Cache, &c.Chunk}[field] = n
	return c
}

// ranges of the five numbers, as the document has them.
var ranges = [][2]int{{1, 8}, {1, 4}, {1, 50}, {0, 2000}, {1, 8}}

// TestNewRanges: P14, each of the five numbers at both ends of its range and one beyond, and far beyond.
func TestNewRanges(t *testing.T) {
	for field, r := range ranges {
		for _, n := range []int{r[0], r[0] + 1, r[1] - 1, r[1]} {
			made(t, withNumber(field, n))
		}
		for _, n := range append([]int{r[0] - 1, r[1] + 1, r[1] * 2}, extremes...) {
			if f, e := front.New(withNumber(field, n)); f != nil || e != api.ErrConfig {
				t.Errorf("P14: New(%+v) = %v, %d", withNumber(field, n), f, e)
			}
		}
	}
	made(t, api.Config{Queue: 1, Workers: 1, Wait: 1, Cache: 0, Chunk: 1})
	made(t, api.Config{Queue: 8, Workers: 4, Wait: 50, Cache: 2000, Chunk: 8})
	for _, c := range []api.Config{{}, {Queue: 9, Workers: 5, Wait: 51, Cache: 2001, Chunk: 9}, {Queue: -1, Workers: -1, Wait: -1, Cache: -1, Chunk: -1}} {
		if f, e := front.New(c); f != nil || e != api.ErrConfig {
			t.Errorf("P14: New(%+v) = %v, %d", c, f, e)
		}
	}
}

// TestNewFront: P14, what a new front is.
func TestNewFront(t *testing.T) {
	for _, c := range []api.Config{small, wide, {Queue: 1, Workers: 1, Wait: 1, Chunk: 1}} {
		f := made(t, c)
		looks(t, f, api.Look{})
		flies(t, f)
		for worker := 0; worker < c.Workers; worker++ {
			idles(t, f, worker)
		}
		ticks(t, f)
		looks(t, f, api.Look{Now: 1})
		// Its features are those of a new store: none, at version 0.
		if n, e := f.Write([]api.Edit{drop(1)}); n != 0 || e != api.ErrNone {
			t.Errorf("P14: Write of a Drop = %d, %d", n, e)
		}
		arrives(t, f, k00, tag(k00, 0), 0, same(0, k00, 0))
		arrives(t, f, k00, "", 1)
		works(t, f, 0)
		works(t, f, 0, fine(1, k00, noughts, 0))
		writes(t, f, 1, put(strip(1)))
	}
}

// TestNewQueue: P14 and P15, Queue requests wait and no more.
func TestNewQueue(t *testing.T) {
	for queue := 1; queue <= 8; queue++ {
		f := made(t, withNumber(0, queue))
		for i := 0; i < queue; i++ {
			arrives(t, f, tile(2*i, 0), "", i)
		}
		arrives(t, f, k00, "", queue, full(queue))
		looks(t, f, api.Look{Arrived: queue + 1, Waiting: queue, Line: queue})
	}
}

// TestNewWorkers: P14 and P16, the workers 0 to Workers - 1 and no other.
func TestNewWorkers(t *testing.T) {
	for workers := 1; workers <= 4; workers++ {
		f := made(t, withNumber(1, workers))
		for i := 0; i < 3; i++ {
			arrives(t, f, tile(2*i, 0), "", i)
		}
		for _, none := range append([]int{workers, workers + 1, 4, 5}, extremes...) {
			idles(t, f, none)
		}
		for i := 0; i < min(workers, 3); i++ {
			works(t, f, i)
			if busy := f.Look().Busy; busy != i+1 {
				t.Errorf("P16: %d workers are busy, want %d", busy, i+1)
			}
		}
	}
}

// TestNewWait: P14 and P18, a request waits for Wait ticks.
func TestNewWait(t *testing.T) {
	for _, wait := range []int{1, 2, 3, 49, 50} {
		f := made(t, withNumber(2, wait))
		ticks(t, f)
		arrives(t, f, k00, "", 0)
		for i := 1; i < wait; i++ {
			ticks(t, f)
		}
		ticks(t, f, late(0))
		ticks(t, f)
	}
}

// TestNewCache: P14 and P16, the cache takes up to Cache bytes.
func TestNewCache(t *testing.T) {
	for cache, entries := range map[int]int{0: 0, 6: 0, 7: 1, 8: 1, 13: 1, 14: 2, 20: 2, 21: 3, 27: 3, 28: 4, 29: 4, 2000: 4} {
		f := made(t, withNumber(3, cache))
		painted(t, f, k00)
		looks(t, f, api.Look{Arrived: 1, Started: 1, Entries: entries, Bytes: 7 * entries})
	}
}

// TestNewCacheGreat: P14 and P16, the greatest cache, full to its last bytes.
func TestNewCacheGreat(t *testing.T) {
	f := made(t, wide)
	for i := 0; i < 71; i++ {
		painted(t, f, tile(2*i, 0))
		looks(t, f, api.Look{Arrived: i + 1, Started: i + 1, Entries: 4*i + 4, Bytes: 28*i + 28})
	}
	// 285 bodies of 7 bytes are 1995 bytes.
	painted(t, f, tile(142, 0))
	looks(t, f, api.Look{Arrived: 72, Started: 72, Entries: 285, Bytes: 1995})
	arrives(t, f, k11, "", 72, fine(72, k11, noughts, 0))
	arrives(t, f, k01, "", 73)
}

// TestNewChunk: P14 and P16, how many features a step reads.
func TestNewChunk(t *testing.T) {
	for chunk := 1; chunk <= 8; chunk++ {
		f := made(t, withNumber(4, chunk))
		writes(t, f, 1, put(strip(1)), put(strip(2)), put(strip(3)), put(strip(4)), put(strip(5)), put(strip(6)), put(strip(7)), put(strip(8)))
		arrives(t, f, k00, "", 0)
		works(t, f, 0)
		flies(t, f, api.Flight{Key: k00, Reads: 1, Left: []int{8, 4, 3, 2, 2, 2, 2, 1}[chunk-1], Waiting: 1})
	}
}
