package store_test

import (
	"testing"

	"atlas/api"
	"atlas/store"
)

// TestHeldKeep: P11, which versions are held without pins, with each keep.
func TestHeldKeep(t *testing.T) {
	for keep, lists := range [][][]int{
		{{0}, {1}, {2}, {3}, {4}, {5}, {6}},
		{{0}, {0, 1}, {1, 2}, {2, 3}, {3, 4}, {4, 5}, {5, 6}},
		{{0}, {0, 1}, {0, 1, 2}, {1, 2, 3}, {2, 3, 4}, {3, 4, 5}, {4, 5, 6}},
		{{0}, {0, 1}, {0, 1, 2}, {0, 1, 2, 3}, {1, 2, 3, 4}, {2, 3, 4, 5}, {3, 4, 5, 6}},
		{{0}, {0, 1}, {0, 1, 2}, {0, 1, 2, 3}, {0, 1, 2, 3, 4}, {1, 2, 3, 4, 5}, {2, 3, 4, 5, 6}},
	} {
		s := fresh(t, keep)
		for v, want := range lists {
			if v > 0 {
				apply(t, s, put(inside(1, v, 0)))
			}
			wantHeld(t, s, want...)
			for version := -3; version <= v+3; version++ {
				wantOnly(t, s, version, version >= max(0, v-keep) && version <= v)
			}
		}
	}
}

// wantOnly looks at whether a version can be read and pinned, and leaves it without the pin.
func wantOnly(t *testing.T, s *store.Store, version int, held bool) {
	t.Helper()
	want := api.ErrVersion
	if held {
		want = api.OK
	}
	if _, e := s.Read(version, 0, 8); e != want {
		t.Errorf("P12: Read(%d, 0, 8): %d, want %d (held %v)", version, e, want, s.Held())
	}
	if e := s.Pin(version); e != want {
		t.Errorf("P11: Pin(%d) = %d, want %d (held %v)", version, e, want, s.Held())
	}
	if e := s.Unpin(version); e != want {
		t.Errorf("P11: Unpin(%d) = %d, want %d (held %v)", version, e, want, s.Held())
	}
	if e := s.Unpin(version); e != api.ErrVersion {
		t.Errorf("P11: Unpin(%d) of a version without a pin = %d", version, e)
	}
}

// TestPinHolds: P11, a version is held by its pin alone, until Unpin; then it is gone for good.
func TestPinHolds(t *testing.T) {
	for keep := 0; keep <= 4; keep++ {
		s := fresh(t, keep)
		apply(t, s, put(inside(1, 1, 0)))
		wantPin(t, s, 1, api.OK)
		for v := 2; v <= 8; v++ {
			apply(t, s, put(inside(1, v, 0)))
		}
		want := []int{1}
		for v := 8 - keep; v <= 8; v++ {
			want = append(want, v)
		}
		wantHeld(t, s, want...)
		wantFeatures(t, s, 1, inside(1, 1, 0))
		wantUnpin(t, s, 1, api.OK)
		wantHeld(t, s, want[1:]...)
		wantOnly(t, s, 1, false)
		apply(t, s, put(inside(1, 1, 0)))
		wantOnly(t, s, 1, false)
	}
}

// TestPinOfAHeldVersion: P11, a pin on a version that is held anyway; it stays held without the pin, as long as keep holds it.
func TestPinOfAHeldVersion(t *testing.T) {
	s := fresh(t, 1)
	apply(t, s, put(inside(1, 1, 0)))
	wantPin(t, s, 1, api.OK)
	wantPin(t, s, 0, api.OK)
	wantHeld(t, s, 0, 1)
	wantUnpin(t, s, 1, api.OK)
	wantUnpin(t, s, 0, api.OK)
	wantHeld(t, s, 0, 1)
	apply(t, s, drop(1))
	wantHeld(t, s, 1, 2)
	wantPin(t, s, 2, api.OK)
	apply(t, s, put(inside(1, 1, 0)))
	wantUnpin(t, s, 2, api.OK)
	wantHeld(t, s, 2, 3)
}

// TestPinsOnOneVersion: P11, several pins on one version: it is held until the last of them is gone.
func TestPinsOnOneVersion(t *testing.T) {
	for n := 1; n <= 6; n++ {
		s := fresh(t, 0)
		for i := 0; i < n; i++ {
			wantPin(t, s, 0, api.OK)
		}
		apply(t, s, put(inside(1, 1, 0)))
		for i := 0; i < n; i++ {
			wantHeld(t, s, 0, 1)
			wantUnpin(t, s, 0, api.OK)
		}
		wantHeld(t, s, 1)
		wantUnpin(t, s, 0, api.ErrVersion)
		wantPin(t, s, 0, api.ErrVersion)
	}
}

// TestPinsOnSeveral: P11, pins on several versions, taken away in another order; each Unpin is of its own version.
func TestPinsOnSeveral(t *testing.T) {
	s := fresh(t, 0)
	for v := 1; v <= 10; v++ {
		apply(t, s, put(inside(v, v, 0)))
		if v == 2 || v == 3 || v == 5 || v == 8 {
			wantPin(t, s, v, api.OK)
		}
		if v == 3 {
			wantPin(t, s, v, api.OK)
		}
	}
	wantHeld(t, s, 2, 3, 5, 8, 10)
	for _, v := range []int{0, 1, 4, 6, 7, 9, 10, 11} {
		wantUnpin(t, s, v, api.ErrVersion)
	}
	wantUnpin(t, s, 5, api.OK)
	wantHeld(t, s, 2, 3, 8, 10)
	wantUnpin(t, s, 5, api.ErrVersion)
	wantUnpin(t, s, 3, api.OK)
	wantHeld(t, s, 2, 3, 8, 10)
	wantUnpin(t, s, 2, api.OK)
	wantHeld(t, s, 3, 8, 10)
	wantUnpin(t, s, 3, api.OK)
	wantHeld(t, s, 8, 10)
	wantFeatures(t, s, 8, inside(1, 1, 0), inside(2, 2, 0), inside(3, 3, 0), inside(4, 4, 0), inside(5, 5, 0), inside(6, 6, 0), inside(7, 7, 0), inside(8, 8, 0))
	wantUnpin(t, s, 8, api.OK)
	wantHeld(t, s, 10)
}

// TestSixPins: P11, six pins, on one version or on several, and one more; ErrVersion comes first.
func TestSixPins(t *testing.T) {
	for _, versions := range [][]int{{4, 4, 4, 4, 4, 4}, {0, 1, 2, 3, 4, 0}, {0, 0, 0, 4, 4, 4}, {3, 2, 3, 2, 3, 2}} {
		s := fresh(t, 4)
		fill(t, s, 1, 32)
		for _, v := range versions {
			wantPin(t, s, v, api.OK)
		}
		for v := 0; v <= 4; v++ {
			wantPin(t, s, v, api.ErrPins)
		}
		for _, v := range append([]int{5, 6, 100}, extremes...) {
			wantPin(t, s, v, api.ErrVersion)
		}
		// What is refused leaves nothing behind: one goes, one comes, and it is six again.
		wantUnpin(t, s, versions[2], api.OK)
		wantPin(t, s, 1, api.OK)
		wantPin(t, s, 1, api.ErrPins)
		apply(t, s, drop(1))
		wantPin(t, s, 5, api.ErrPins)
		wantUnpin(t, s, 5, api.ErrVersion)
	}
}

// TestNoSuchVersion: P11, versions that never were, or are not yet.
func TestNoSuchVersion(t *testing.T) {
	s := fresh(t, 4)
	for newest := 0; newest <= 6; newest++ {
		for _, v := range append([]int{newest + 1, newest + 2, 100, 101}, extremes...) {
			wantOnly(t, s, v, false)
		}
		apply(t, s, put(inside(1, 1, 0)))
	}
	wantHeld(t, s, 3, 4, 5, 6, 7)
}
