package store_test

import (
	"testing"

	"atlas/api"
	"atlas/store"
)

// TestNewRange: P9, keep from 0 to 4, one beyond both ends, and far beyond.
func TestNewRange(t *testing.T) {
	for keep := 0; keep <= 4; keep++ {
		fresh(t, keep)
	}
	for _, keep := range append([]int{5, 6}, extremes...) {
		if s, e := store.New(keep); s != nil || e != api.ErrConfig {
			t.Errorf("P9: New(%d) = %v, %d", keep, s, e)
		}
	}
}

// TestNewStore: P9, what a new store tells, whatever its keep is.
func TestNewStore(t *testing.T) {
	for keep := 0; keep <= 4; keep++ {
		s := fresh(t, keep)
		if s.Version() != 0 {
			t.Errorf("P9: Version() = %d, of a new store", s.Version())
		}
		wantHeld(t, s, 0)
		for _, after := range append([]int{0, 1, 1000}, extremes...) {
			for n := 1; n <= 8; n++ {
				if fs, e := s.Read(0, after, n); len(fs) != 0 || e != api.OK {
					t.Errorf("P9: Read(0, %d, %d) = %+v, %d, of a new store", after, n, fs, e)
				}
			}
		}
		for layer := 0; layer < 4; layer++ {
			for zoom := 0; zoom <= 22; zoom++ {
				wantStamp(t, s, 0, api.Key{Layer: layer, Z: zoom}, 0)
				wantStamp(t, s, 0, api.Key{Layer: layer, Z: zoom, X: 1<<zoom - 1, Y: 1<<zoom - 1}, 0)
			}
		}
		for _, version := range append([]int{1, 2, 100}, extremes...) {
			if fs, e := s.Read(version, 0, 8); fs != nil || e != api.ErrVersion {
				t.Errorf("P9: Read(%d, 0, 8) = %+v, %d, of a new store", version, fs, e)
			}
			if n, e := s.Stamp(version, api.Key{}); n != 0 || e != api.ErrVersion {
				t.Errorf("P9: Stamp(%d) = %d, %d, of a new store", version, n, e)
			}
			wantPin(t, s, version, api.ErrVersion)
			wantUnpin(t, s, version, api.ErrVersion)
		}
		// It has no pin, and room for six.
		wantUnpin(t, s, 0, api.ErrVersion)
		for i := 0; i < 6; i++ {
			wantPin(t, s, 0, api.OK)
		}
		wantPin(t, s, 0, api.ErrPins)
	}
}

// TestExample: the section Examples, the store of keep 1.
func TestExample(t *testing.T) {
	s := fresh(t, 1)
	for want := 1; want <= 2; want++ {
		if n, e := s.Apply([]api.Edit{put(inside(want, 0, 0))}); n != want || e != api.OK {
			t.Errorf("P10: Apply = %d, %d, want %d", n, e, want)
		}
	}
	wantHeld(t, s, 1, 2)
	if fs, e := s.Read(0, 0, 8); len(fs) != 0 || e != api.ErrVersion {
		t.Errorf("P12: Read(0, 0, 8) = %+v, %d", fs, e)
	}
	wantPin(t, s, 1, api.OK)
	apply(t, s, put(inside(3, 0, 0)))
	apply(t, s, put(inside(4, 0, 0)))
	wantHeld(t, s, 1, 3, 4)
	wantUnpin(t, s, 1, api.OK)
	wantHeld(t, s, 3, 4)
	wantPin(t, s, 1, api.ErrVersion)
}
