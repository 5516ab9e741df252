package store_test

import (
	"testing"

	"atlas/api"
	"atlas/store"
)

// TestStampPut: P13, behind a Put of a new feature.
func TestStampPut(t *testing.T) {
	s := fresh(t, 0)
	apply(t, s, put(inside(1, 1, 0)))
	apply(t, s, put(inside(2, 2, 0)))
	apply(t, s, put(inside(3, 1, 0)))
	wantStamps(t, s, tile(1, 0), 0, 1, 1, 3)
	wantStamps(t, s, tile(2, 0), 0, 0, 2, 2)
	wantStamps(t, s, tile(3, 0), 0, 0, 0, 0)
	wantStamps(t, s, tile(1, 1), 0, 0, 0, 0)
	wantStamps(t, s, api.Key{}, 0, 1, 2, 3)
	wantStamps(t, s, api.Key{Layer: 1}, 0, 0, 0, 0)
}

// TestStampReplace: P13, behind a Put in the place of another: each of the two touching the key, both, neither.
func TestStampReplace(t *testing.T) {
	s := fresh(t, 0)
	apply(t, s, put(inside(1, 1, 0)))
	apply(t, s, put(inside(9, 9, 0)))
	apply(t, s, put(inside(1, 2, 0)))
	apply(t, s, put(inside(9, 9, 0)))
	apply(t, s, put(inside(1, 2, 0)))
	wantStamps(t, s, tile(1, 0), 0, 1, 1, 3, 3, 3) // the old one alone
	wantStamps(t, s, tile(2, 0), 0, 0, 0, 3, 3, 5) // the new one alone, then both
	wantStamps(t, s, tile(3, 0), 0, 0, 0, 0, 0, 0) // neither
	wantStamps(t, s, tile(9, 0), 0, 0, 2, 2, 4, 4)
	wantStamps(t, s, api.Key{}, 0, 1, 2, 3, 4, 5)
	// What was replaced earlier touches no more.
	apply(t, s, put(inside(1, 3, 0)))
	apply(t, s, drop(1))
	wantStamps(t, s, tile(1, 0), 0, 1, 1, 3, 3, 3, 3, 3)
	wantStamps(t, s, tile(2, 0), 0, 0, 0, 3, 3, 5, 6, 6)
	wantStamps(t, s, tile(3, 0), 0, 0, 0, 0, 0, 0, 6, 7)
}

// TestStampDrop: P13, behind a Drop: what goes touches, not what the edit has.
func TestStampDrop(t *testing.T) {
	s := fresh(t, 0)
	apply(t, s, put(inside(1, 1, 0)), put(inside(2, 2, 0)))
	apply(t, s, drop(1))
	apply(t, s, put(inside(1, 3, 0)))
	apply(t, s, api.Edit{Op: api.Drop, F: inside(1, 2, 0)})
	wantStamps(t, s, tile(1, 0), 0, 1, 2, 2, 2)
	wantStamps(t, s, tile(2, 0), 0, 1, 1, 1, 1)
	wantStamps(t, s, tile(3, 0), 0, 0, 0, 3, 4)
}

// TestStampBatches: P13, batches of several edits touch by any of them, the first, the last, or one that a later edit undid.
func TestStampBatches(t *testing.T) {
	s := fresh(t, 0)
	apply(t, s, put(inside(1, 1, 0)), put(inside(2, 2, 0)), put(inside(3, 3, 0)))
	apply(t, s, put(inside(4, 4, 0)), drop(4))
	apply(t, s, put(inside(5, 4, 0)), put(inside(5, 5, 0)), put(inside(5, 6, 0)))
	apply(t, s, drop(1), put(inside(1, 7, 0)))
	apply(t, s, put(inside(1, 8, 0)), drop(1))
	apply(t, s, drop(3), put(inside(3, 9, 0)), drop(3), put(inside(3, 3, 0)))
	apply(t, s, put(inside(11, 11, 0)), put(inside(12, 12, 0)), put(inside(13, 13, 0)), put(inside(14, 14, 0)), put(inside(15, 15, 0)), put(inside(16, 16, 0)), put(inside(17, 17, 0)), put(inside(18, 18, 0)))
	wantStamps(t, s, tile(1, 0), 0, 1, 1, 1, 4, 4, 4, 4)
	wantStamps(t, s, tile(2, 0), 0, 1, 1, 1, 1, 1, 1, 1)
	wantStamps(t, s, tile(3, 0), 0, 1, 1, 1, 1, 1, 6, 6)
	wantStamps(t, s, tile(4, 0), 0, 0, 2, 3, 3, 3, 3, 3)
	wantStamps(t, s, tile(5, 0), 0, 0, 0, 3, 3, 3, 3, 3)
	wantStamps(t, s, tile(6, 0), 0, 0, 0, 3, 3, 3, 3, 3)
	wantStamps(t, s, tile(7, 0), 0, 0, 0, 0, 4, 5, 5, 5)
	wantStamps(t, s, tile(8, 0), 0, 0, 0, 0, 0, 5, 5, 5)
	wantStamps(t, s, tile(9, 0), 0, 0, 0, 0, 0, 0, 6, 6)
	wantStamps(t, s, tile(10, 0), 0, 0, 0, 0, 0, 0, 0, 0)
	for x := 11; x <= 18; x++ {
		wantStamps(t, s, tile(x, 0), 0, 0, 0, 0, 0, 0, 0, 7)
	}
	wantStamps(t, s, api.Key{Z: 5}, 0, 1, 2, 3, 4, 5, 6, 7)
}

// TestStampTouches: P13, what touches a key: its layer, From, the box with its edges, dots by the zoom.
func TestStampTouches(t *testing.T) {
	s := fresh(t, 0)
	f := inside(1, 1, 0)
	f.Layer, f.From = 2, 21
	apply(t, s, put(f))
	wantStamp(t, s, 1, api.Key{Layer: 2, Z: 22, X: 1}, 1)
	wantStamp(t, s, 1, api.Key{Layer: 2, Z: 21}, 1)
	wantStamp(t, s, 1, api.Key{Layer: 2, Z: 20}, 0)
	wantStamp(t, s, 1, api.Key{Layer: 1, Z: 22, X: 1}, 0)
	// To another layer: both are touched. To another From: the zooms of either.
	f.Layer = 1
	apply(t, s, put(f))
	wantStamp(t, s, 2, api.Key{Layer: 2, Z: 22, X: 1}, 2)
	wantStamp(t, s, 2, api.Key{Layer: 1, Z: 22, X: 1}, 2)
	f.From = 22
	apply(t, s, put(f))
	wantStamp(t, s, 3, api.Key{Layer: 2, Z: 22, X: 1}, 2)
	wantStamp(t, s, 3, api.Key{Layer: 1, Z: 21}, 3)
	apply(t, s, drop(1))
	wantStamp(t, s, 4, api.Key{Layer: 1, Z: 22, X: 1}, 4)
	wantStamp(t, s, 4, api.Key{Layer: 1, Z: 21}, 3)
	// A common edge is enough.
	g := inside(2, 5, 5)
	g.Xs[1] = 256 * 6
	apply(t, s, put(g))
	wantStamp(t, s, 5, tile(5, 5), 5)
	wantStamp(t, s, 5, tile(6, 5), 5)
	wantStamp(t, s, 5, tile(7, 5), 0)
	// A dot's box is larger at lower zooms: 3 pixels of 64 at zoom 21, of 32 at zoom 22.
	d := api.Feature{Id: 3, Layer: 3, Kind: api.Dot, Ink: 1, Size: 3, N: 1}
	d.Xs[0], d.Ys[0] = 1024+150, 1024+150
	apply(t, s, put(d))
	wantStamp(t, s, 6, api.Key{Layer: 3, Z: 22, X: 4, Y: 4}, 6)
	wantStamp(t, s, 6, api.Key{Layer: 3, Z: 22, X: 3, Y: 4}, 0)
	wantStamp(t, s, 6, api.Key{Layer: 3, Z: 21, X: 1, Y: 2}, 6)
	// The box counts, though nothing is covered there.
	h := api.Feature{Id: 4, Layer: 3, Ink: 1, N: 3, Xs: [8]int{2560, 5120, 2560}, Ys: [8]int{2560, 5120, 5120}}
	apply(t, s, put(h))
	wantStamp(t, s, 7, api.Key{Layer: 3, Z: 22, X: 19, Y: 10}, 7)
}

// TestStampOfVersions: P13, version at both ends and one beyond; it need not be held.
func TestStampOfVersions(t *testing.T) {
	s := fresh(t, 0)
	for v := 1; v <= 100; v++ {
		apply(t, s, put(inside(1+v%7, v%10, 0)))
		wantHeld(t, s, v)
		for old := 0; old <= v; old++ {
			// The tile is touched by each tenth version, and seven versions later, when its feature is replaced.
			want := old / 10 * 10
			if old > 10 && old%10 >= 7 {
				want += 7
			}
			wantStamp(t, s, old, tile(0, 0), want)
			wantStamp(t, s, old, api.Key{}, old)
			wantStamp(t, s, old, tile(0, 1), 0)
		}
		for _, version := range append([]int{v + 1, v + 2, 101, 102}, extremes...) {
			if n, e := s.Stamp(version, tile(0, 0)); n != 0 || e != api.ErrVersion {
				t.Errorf("P13: Stamp(%d) = %d, %d at version %d", version, n, e, v)
			}
		}
	}
}

// TestStampKeys: P13, keys with an error, which comes ahead of that of the version.
func TestStampKeys(t *testing.T) {
	s := stocked(t)
	for _, version := range append([]int{0, 1, 2, 3}, extremes...) {
		for _, n := range append([]int{23, 64, 1 << 20}, extremes...) {
			wantKeyError(t, s, version, api.Key{Layer: n}, api.ErrLayer)
			wantKeyError(t, s, version, api.Key{Layer: n, Z: n, X: n, Y: n}, api.ErrLayer)
			wantKeyError(t, s, version, api.Key{Z: n}, api.ErrZoom)
			wantKeyError(t, s, version, api.Key{Layer: 3, Z: n, X: n, Y: n}, api.ErrZoom)
			wantKeyError(t, s, version, api.Key{X: n}, api.ErrPlace)
			wantKeyError(t, s, version, api.Key{Layer: 3, Z: 2, X: 3, Y: n}, api.ErrPlace)
			wantKeyError(t, s, version, api.Key{Z: 4, X: n, Y: n}, api.ErrPlace)
		}
		wantKeyError(t, s, version, api.Key{Layer: 4}, api.ErrLayer)
		for zoom := 0; zoom <= 22; zoom++ {
			wantKeyError(t, s, version, api.Key{Z: zoom, X: 1 << zoom}, api.ErrPlace)
			wantKeyError(t, s, version, api.Key{Z: zoom, Y: 1 << zoom}, api.ErrPlace)
		}
	}
}

func wantKeyError(t *testing.T, s *store.Store, version int, k api.Key, want api.Errno) {
	t.Helper()
	if n, e := s.Stamp(version, k); n != 0 || e != want {
		t.Errorf("P13: Stamp(%d, %+v) = %d, %d, want 0, %d", version, k, n, e, want)
	}
}
