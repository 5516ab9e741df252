package front_test

import (
	"testing"

	"atlas/api"
	"atlas/front"
)

// stripes is an area of each second column of a key's tile of zoom 22, from the left on: each adds to the length of the body.
func stripes(first int, k api.Key, n int) []api.Edit {
	var batch []api.Edit
	for i := 0; i < n; i++ {
		f := api.Feature{Id: first + i, Layer: k.Layer, Ink: 9, From: 22, N: 4}
		left, top := 256*k.X+64*i+1, 256*k.Y+1
		f.Xs = [8]int{left, left + 30, left + 30, left}
		f.Ys = [8]int{top, top, top + 250, top + 250}
		batch = append(batch, put(f))
	}
	return batch
}

// features of a batch of Puts.
func features(batch []api.Edit) []api.Feature {
	var fs []api.Feature
	for _, edit := range batch {
		fs = append(fs, edit.F)
	}
	return fs
}

// withCache is a front with one worker and a cache.
func withCache(t *testing.T, cache int) *front.Front {
	t.Helper()
	return made(t, api.Config{Queue: 8, Workers: 1, Wait: 50, Cache: cache, Chunk: 8})
}

// TestCacheOrder: P16, tiles of the lesser Y are laid in first, of these that of the lesser X: the last ones stay.
func TestCacheOrder(t *testing.T) {
	for room, want := range map[int][]api.Key{6: nil, 7: {k11}, 14: {k01, k11}, 21: {k10, k01, k11}, 28: block4()} {
		for _, k := range block4() {
			f := withCache(t, room)
			painted(t, f, k)
			wantCached(t, f, block4(), want...)
		}
	}
}

// TestCacheOldest: P16, what is taken out is the entry whose last use is the longest ago, one after the other, as long as there is need.
func TestCacheOldest(t *testing.T) {
	f := withCache(t, 84)
	var keys []api.Key
	for i := 0; i < 4; i++ {
		painted(t, f, tile(2*i, 0))
		if look := f.Look(); look.Entries != min(4*i+4, 12) || look.Bytes != 7*look.Entries {
			t.Fatalf("P16: %+v behind %d blocks", look, i+1)
		}
		keys = append(keys, tile(2*i, 0), tile(2*i+1, 0), tile(2*i, 1), tile(2*i+1, 1))
	}
	wantCached(t, f, keys, keys[4:]...)
	// Several go for one that is long.
	f = withCache(t, 84)
	batch := stripes(1, k00, 4)
	writes(t, f, 1, batch...)
	for i := 1; i < 4; i++ {
		painted(t, f, tile(2*i, 0))
	}
	painted(t, f, k00)
	gone := 0
	for 7*(15-gone)+len(body(t, k00, features(batch)...)) > 84 {
		gone++
	}
	keys = append(keys[4:], block4()...)
	wantCached(t, f, keys, keys[gone:]...)
}

// TestCacheLonger: P16, a body that is longer than Cache is not laid in, and nothing goes for it.
func TestCacheLonger(t *testing.T) {
	batch := stripes(1, k01, 4)
	long := len(body(t, k01, features(batch)...))
	if long < 40 {
		t.Fatalf("the body has %d bytes", long)
	}
	f := withCache(t, long-1)
	writes(t, f, 1, batch...)
	painted(t, f, k20)
	painted(t, f, k00)
	looks(t, f, api.Look{Version: 1, Arrived: 2, Started: 2, Entries: 7, Bytes: 49})
	wantCached(t, f, []api.Key{k20, k30, k21, k31, k00, k10, k01, k11}, k20, k30, k21, k31, k00, k10, k11)
	// It is answered all the same.
	f = withCache(t, long-1)
	writes(t, f, 1, batch...)
	arrives(t, f, k01, "", 0)
	works(t, f, 0)
	works(t, f, 0, fine(0, k01, body(t, k01, features(batch)...), 1))
	arrives(t, f, k01, "", 1)
	// One byte more, and it is laid in: for it all others go, and for the next one it goes.
	f = withCache(t, long)
	writes(t, f, 1, batch...)
	painted(t, f, k20)
	painted(t, f, k00)
	wantCached(t, f, []api.Key{k20, k30, k21, k31, k00, k10, k01, k11}, k11)
}

// TestCacheLongest: P16, the longest body there is, in a cache that is just as long.
func TestCacheLongest(t *testing.T) {
	// 32 areas of one pixel each, in two inks: no two pixels beside each other are alike.
	var batch []api.Edit
	version := 0
	k := api.Key{Layer: 3}
	for i := 0; i < 32; i++ {
		u := 1 << 27
		row, column := i/4, 2*(i%4)
		f := api.Feature{Id: 1 + i, Layer: 3, Ink: 1 + row%2, N: 4}
		f.Xs = [8]int{column * u, column*u + u, column*u + u, column * u}
		f.Ys = [8]int{row * u, row * u, row*u + u, row*u + u}
		batch = append(batch, put(f))
	}
	long := body(t, k, features(batch)...)
	if len(long) != 67 {
		t.Fatalf("the body has %d bytes", len(long))
	}
	for cache, entries := range map[int]int{66: 0, 67: 1, 68: 1} {
		f := withCache(t, cache)
		for version = 0; version < 4; version++ {
			writes(t, f, version+1, batch[8*version:8*version+8]...)
		}
		arrives(t, f, k, "", 0)
		for i := 0; i < 4; i++ {
			works(t, f, 0)
		}
		works(t, f, 0, fine(0, k, long, 4))
		looks(t, f, api.Look{Version: 4, Arrived: 1, Started: 1, Entries: entries, Bytes: 67 * entries})
	}
}

// TestCacheThere: P16, an entry that is there already is taken out first, and laid in anew, which is a use.
func TestCacheThere(t *testing.T) {
	f := withCache(t, 35)
	painted(t, f, k00)
	writes(t, f, 1, put(inside(1, k11)))
	eleven := body(t, k11, inside(1, k11))
	painted(t, f, root) // the bodies of k00, k10, k01 and root take 28 bytes
	looks(t, f, api.Look{Version: 1, Arrived: 2, Started: 2, Entries: 4, Bytes: 28})
	arrives(t, f, k11, "", 2)
	works(t, f, 0)
	works(t, f, 0, fine(2, k11, eleven, 1))
	// k00, k10 and k01 are laid in anew; then for k11 those that were used the longest ago go: root, and as many more as there is need.
	left := []api.Key{k00, k10, k01}
	for 7*len(left)+len(eleven) > 35 {
		left = left[1:]
	}
	wantCached(t, f, append(block4(), root), append(left, k11)...)
}

// TestCacheThereLonger: P16, each tile that is laid in anew pushes out the one that was used the longest ago, in the end the first one of its own block.
func TestCacheThereLonger(t *testing.T) {
	if len(sevens) != 8 {
		t.Fatal("the body of two sevens has 8 bytes")
	}
	f := withCache(t, 28)
	painted(t, f, k00)
	writes(t, f, 1, put(strip(1)))
	looks(t, f, api.Look{Version: 1, Arrived: 1, Started: 1, Entries: 3, Bytes: 21})
	painted(t, f, k00)
	// k00 (8 bytes) pushes out k10, k10 then k01, k01 then k11, k11 then k00.
	looks(t, f, api.Look{Version: 1, Arrived: 2, Started: 2, Entries: 3, Bytes: 21})
	wantCached(t, f, block4(), k10, k01, k11)
	// With room for it nothing goes.
	f = withCache(t, 29)
	painted(t, f, k00)
	writes(t, f, 1, put(strip(1)))
	painted(t, f, k00)
	looks(t, f, api.Look{Version: 1, Arrived: 2, Started: 2, Entries: 4, Bytes: 29})
	wantCached(t, f, block4(), block4()...)
}

// TestCacheThereUse: P16, laying a tile in anew is a use: the order is that of the last painting.
func TestCacheThereUse(t *testing.T) {
	f := withCache(t, 35)
	painted(t, f, k00)
	arrives(t, f, k00, "", 1, fine(1, k00, noughts, 0)) // used last
	writes(t, f, 1, put(strip(1)), drop(1))             // k00 goes
	painted(t, f, k00)                                  // all four are laid in anew, k00 first
	painted(t, f, root)                                 // 35 bytes
	looks(t, f, api.Look{Version: 1, Arrived: 4, Started: 3, Entries: 5, Bytes: 35})
	painted(t, f, api.Key{Layer: 1}) // pushes out k00
	wantCached(t, f, append(block4(), root, api.Key{Layer: 1}), k10, k01, k11, root, api.Key{Layer: 1})
}

// TestCacheUnchanged: P16, only tiles are laid in that no Write behind the version that was read touches.
func TestCacheUnchanged(t *testing.T) {
	for i, touched := range block4() {
		f := withCache(t, 2000)
		arrives(t, f, k00, "", 0)
		works(t, f, 0)
		writes(t, f, 1, put(inside(1, touched)))
		writes(t, f, 2, put(inside(2, k20)))
		works(t, f, 0, fine(0, k00, noughts, 0))
		looks(t, f, api.Look{Version: 2, Arrived: 1, Started: 1, Entries: 3, Bytes: 21})
		var want []api.Key
		want = append(want, block4()[:i]...)
		want = append(want, block4()[i+1:]...)
		wantCached(t, f, block4(), want...)
	}
	// All of them touched.
	f := withCache(t, 2000)
	arrives(t, f, k00, "", 0)
	works(t, f, 0)
	writes(t, f, 1, put(inside(1, k00)), put(inside(2, k10)), put(inside(3, k01)), put(inside(4, k11)))
	works(t, f, 0, fine(0, k00, noughts, 0))
	looks(t, f, api.Look{Version: 1, Arrived: 1, Started: 1})
	// Touched at the version that was read itself: that is no change behind it.
	f = withCache(t, 2000)
	arrives(t, f, k00, "", 0)
	writes(t, f, 1, put(strip(1)))
	works(t, f, 0)
	writes(t, f, 2, put(inside(2, k20)))
	works(t, f, 0, fine(0, k00, sevens, 1))
	looks(t, f, api.Look{Version: 2, Arrived: 1, Started: 1, Entries: 4, Bytes: 29})
	arrives(t, f, k00, "", 1, fine(1, k00, sevens, 1))
}

// TestCacheAnswersFirst: P16, a request is answered by the painting, though its tile finds no room in the cache.
func TestCacheAnswersFirst(t *testing.T) {
	f := withCache(t, 0)
	for i := 0; i < 5; i++ {
		arrives(t, f, k00, "", i)
		works(t, f, 0)
		works(t, f, 0, fine(i, k00, noughts, 0))
		looks(t, f, api.Look{Arrived: i + 1, Started: i + 1})
	}
}

// TestCacheTwoBlocks: P16, two workers lay in their blocks in the order in which they end.
func TestCacheTwoBlocks(t *testing.T) {
	f := made(t, api.Config{Queue: 8, Workers: 2, Wait: 50, Cache: 35, Chunk: 8})
	arrives(t, f, k00, "", 0)
	arrives(t, f, k20, "", 1)
	works(t, f, 0)
	works(t, f, 1)
	works(t, f, 1, fine(1, k20, noughts, 0))
	works(t, f, 0, fine(0, k00, noughts, 0))
	wantCached(t, f, []api.Key{k20, k30, k21, k31, k00, k10, k01, k11}, k31, k00, k10, k01, k11)
}
