package shape_test

import (
	"math/rand"
	"testing"

	"atlas/api"
	"atlas/shape"
)

func wantTouches(t *testing.T, f api.Feature, k api.Key, want bool) {
	t.Helper()
	if on := shape.Touches(f, k); on != want {
		t.Errorf("P7: Touches(%+v, %+v) = %v, want %v", f, k, on, want)
	}
}

// TestTouchesExamples: the section Examples.
func TestTouchesExamples(t *testing.T) {
	small, large := area(0, 0, 64, 0, 64, 32, 0, 32), area(0, 0, 256, 0, 256, 32, 0, 32)
	wantTouches(t, small, api.Key{Z: 22}, true)
	wantTouches(t, small, api.Key{Z: 22, X: 1}, false)
	wantTouches(t, large, api.Key{Z: 22}, true)
	wantTouches(t, large, api.Key{Z: 22, X: 1}, true)
}

// TestTouchesEdges: P7, a common edge or corner is enough, to all sides, at every zoom, and one less is not.
func TestTouchesEdges(t *testing.T) {
	for zoom := 2; zoom <= 22; zoom++ {
		side := 8 * unitOf(zoom)
		for _, k := range []api.Key{{Z: zoom, X: 1, Y: 2}, {Z: zoom, X: 1<<zoom - 2, Y: 1}, {Z: zoom, X: 1<<zoom - 2, Y: 1<<zoom - 2}} {
			left, top := k.X*side, k.Y*side
			right, bottom := left+side, top+side
			for beyond := 0; beyond <= 1; beyond++ {
				on := beyond == 0
				// Edges.
				wantTouches(t, upright(left-9, top+3, left-beyond, top+7), k, on)
				wantTouches(t, upright(right+beyond, top+3, right+9, top+7), k, on)
				wantTouches(t, upright(left+3, top-9, left+7, top-beyond), k, on)
				wantTouches(t, upright(left+3, bottom+beyond, left+7, bottom+9), k, on)
				// Corners, with one beyond along X alone, and along Y alone.
				wantTouches(t, upright(left-9, top-9, left-beyond, top), k, on)
				wantTouches(t, upright(left-9, top-9, left, top-beyond), k, on)
				wantTouches(t, upright(right+beyond, top-9, right+9, top), k, on)
				wantTouches(t, upright(right, top-9, right+9, top-beyond), k, on)
				wantTouches(t, upright(left-9, bottom, left-beyond, bottom+9), k, on)
				wantTouches(t, upright(left-9, bottom+beyond, left, bottom+9), k, on)
				wantTouches(t, upright(right+beyond, bottom, right+9, bottom+9), k, on)
				wantTouches(t, upright(right, bottom+beyond, right+9, bottom+9), k, on)
			}
			// The box inside the square, the square inside the box, the same, and a cross of the two.
			wantTouches(t, upright(left+5, top+5, left+6, top+6), k, true)
			wantTouches(t, upright(left-5, top-5, right+5, bottom+5), k, true)
			wantTouches(t, upright(left, top, right, bottom), k, true)
			wantTouches(t, upright(left+5, top-5, right-5, bottom+5), k, true)
			wantTouches(t, upright(left-5, top+5, right+5, bottom-5), k, true)
			wantTouches(t, whole(), k, true)
		}
	}
}

// TestTouchesBox: P7, the box is looked at, not what is covered; any of the points may be its end.
func TestTouchesBox(t *testing.T) {
	// A slanting area whose box alone comes to the key, and one that covers no point at all.
	wantTouches(t, area(0, 0, 1000, 1000, 0, 1000), api.Key{Z: 22, X: 3, Y: 0}, true)
	wantTouches(t, area(300, 300, 300, 300, 300, 300), api.Key{Z: 22, X: 1, Y: 1}, true)
	wantTouches(t, area(300, 300, 300, 300, 300, 300), api.Key{Z: 22, X: 0, Y: 1}, false)
	wantTouches(t, area(256, 256, 256, 256, 256, 256), api.Key{Z: 22}, true)
	for n := 3; n <= 8; n++ {
		for i := 0; i < n; i++ {
			f := api.Feature{Id: 1, Ink: 1, N: n}
			for j := 0; j < n; j++ {
				f.Xs[j], f.Ys[j] = 600, 600
			}
			wantTouches(t, f, api.Key{Z: 22, X: 2, Y: 2}, true)
			// Each point alone takes the box to one of the four sides.
			g := f
			g.Xs[i] = 500
			wantTouches(t, g, api.Key{Z: 22, X: 1, Y: 2}, true)
			wantTouches(t, g, api.Key{Z: 22, X: 3, Y: 2}, false)
			wantTouches(t, g, api.Key{Z: 22, X: 1, Y: 1}, false)
			g = f
			g.Xs[i] = 800
			wantTouches(t, g, api.Key{Z: 22, X: 3, Y: 2}, true)
			wantTouches(t, g, api.Key{Z: 22, X: 1, Y: 2}, false)
			g = f
			g.Ys[i] = 500
			wantTouches(t, g, api.Key{Z: 22, X: 2, Y: 1}, true)
			wantTouches(t, g, api.Key{Z: 22, X: 2, Y: 3}, false)
			g = f
			g.Ys[i] = 800
			wantTouches(t, g, api.Key{Z: 22, X: 2, Y: 3}, true)
			wantTouches(t, g, api.Key{Z: 22, X: 2, Y: 1}, false)
			// What stands behind the last point is none.
			wantTouches(t, f, api.Key{Z: 22}, false)
		}
	}
}

// TestTouchesDots: P7, a dot's box, whose size hangs on the zoom, at every zoom.
func TestTouchesDots(t *testing.T) {
	for zoom := 2; zoom <= 22; zoom++ {
		for size := 1; size <= 3; size++ {
			u := unitOf(zoom)
			r := size * u
			k := api.Key{Z: zoom, X: 1, Y: 2}
			left, top := 8*u, 16*u
			right, bottom := 16*u, 24*u
			for beyond := 0; beyond <= 1; beyond++ {
				on := beyond == 0
				wantTouches(t, dot(size, left-r-beyond, top+u), k, on)
				wantTouches(t, dot(size, right+r+beyond, top+u), k, on)
				wantTouches(t, dot(size, left+u, top-r-beyond), k, on)
				wantTouches(t, dot(size, left+u, bottom+r+beyond), k, on)
				// A corner of the box, where the dot itself does not come.
				wantTouches(t, dot(size, left-r-beyond, top-r), k, on)
				wantTouches(t, dot(size, left-r, top-r-beyond), k, on)
				wantTouches(t, dot(size, right+r+beyond, bottom+r), k, on)
				wantTouches(t, dot(size, right+r, bottom+r+beyond), k, on)
			}
			wantTouches(t, dot(size, left+3*u, top+3*u), k, true)
		}
	}
}

// TestTouchesWorldEnds: P7, a dot's box may reach beyond the world; nothing comes in on the other side.
func TestTouchesWorldEnds(t *testing.T) {
	for zoom := 0; zoom <= 22; zoom++ {
		last := 1<<zoom - 1
		for size := 1; size <= 3; size++ {
			for _, k := range []api.Key{{Z: zoom}, {Z: zoom, X: last}, {Z: zoom, Y: last}, {Z: zoom, X: last, Y: last}} {
				wantTouches(t, dot(size, 0, 0), k, k.X == 0 && k.Y == 0)
				wantTouches(t, dot(size, world, 0), k, k.X == last && k.Y == 0)
				wantTouches(t, dot(size, 0, world), k, k.X == 0 && k.Y == last)
				wantTouches(t, dot(size, world, world), k, k.X == last && k.Y == last)
			}
		}
	}
}

// TestTouchesLayerAndFrom: P7, the layer must be the key's, From at most its zoom.
func TestTouchesLayerAndFrom(t *testing.T) {
	for _, base := range []api.Feature{whole(), dot(1, 0, 0)} {
		for layer := 0; layer < 4; layer++ {
			for from := 0; from <= 22; from++ {
				f := base
				f.Layer, f.From = layer, from
				for keyLayer := 0; keyLayer < 4; keyLayer++ {
					for zoom := 0; zoom <= 22; zoom++ {
						wantTouches(t, f, api.Key{Layer: keyLayer, Z: zoom}, layer == keyLayer && from <= zoom)
					}
				}
			}
		}
	}
}

// wrongKeys have an error, each by one number alone; and the errors.
func wrongKeys() ([]api.Key, []api.Errno) {
	var keys []api.Key
	var errors []api.Errno
	for _, n := range append([]int{4, 5}, extremes...) {
		keys = append(keys, api.Key{Layer: n}, api.Key{Layer: n, Z: n, X: n, Y: n})
		errors = append(errors, api.ErrLayer, api.ErrLayer)
	}
	for _, n := range append([]int{23, 27, 28, 64}, extremes...) {
		keys = append(keys, api.Key{Z: n}, api.Key{Layer: 3, Z: n, X: n, Y: n})
		errors = append(errors, api.ErrZoom, api.ErrZoom)
	}
	for zoom := 0; zoom <= 22; zoom++ {
		for _, n := range append([]int{1 << zoom}, extremes...) {
			keys = append(keys, api.Key{Z: zoom, X: n}, api.Key{Z: zoom, Y: n}, api.Key{Z: zoom, X: n, Y: n})
			errors = append(errors, api.ErrPlace, api.ErrPlace, api.ErrPlace)
		}
	}
	return keys, errors
}

// TestTouchesWrongKeys: P7, what has an error is not touched.
func TestTouchesWrongKeys(t *testing.T) {
	keys, _ := wrongKeys()
	for _, k := range keys {
		wantTouches(t, whole(), k, false)
		for size := 1; size <= 3; size++ {
			wantTouches(t, dot(size, 0, 0), k, false)
			wantTouches(t, dot(size, world, world), k, false)
		}
	}
}

// TestTouchesSome: P7, features and keys of all sizes and places.
func TestTouchesSome(t *testing.T) {
	source := rand.New(rand.NewSource(9))
	touched := 0
	for i := 0; i < 20000; i++ {
		room := 1 << source.Intn(31)
		left, top := source.Intn(world+1), source.Intn(world+1)
		f := someFeature(source, left, top, room)
		n := source.Intn(f.N)
		k := someKey(source, f.Xs[n], f.Ys[n])
		if source.Intn(4) > 0 {
			f.Layer, f.From = k.Layer, source.Intn(k.Z+1)
		}
		want := touchesModel(f, k)
		wantTouches(t, f, k, want)
		if want {
			touched++
		}
	}
	if touched < 5000 || touched > 15000 {
		t.Errorf("%d of 20000 touch: the features and keys are not well mixed", touched)
	}
}

// TestTouchesWhatItCovers: what covers the centre of a pixel touches the key.
func TestTouchesWhatItCovers(t *testing.T) {
	source := rand.New(rand.NewSource(10))
	for i := 0; i < 2000; i++ {
		k := someKey(source, source.Intn(world+1), source.Intn(world+1))
		f := inTile(source, k)
		s, e := shape.Paint([]api.Feature{f}, k)
		if e != api.OK {
			t.Fatalf("P8: Paint(%+v, %+v): %d", f, k, e)
		}
		if s != inked(0) && !shape.Touches(f, k) {
			t.Errorf("P7: %+v paints %+v, but does not touch it", f, k)
		}
	}
}
