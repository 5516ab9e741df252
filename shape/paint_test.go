package shape_test

import (
	"encoding/hex"
	"math/rand"
	"strings"
	"testing"

	"atlas/api"
	"atlas/shape"
	"atlas/wire"
)

// inked is a picture of one ink.
func inked(ink int) string { return strings.Repeat(string([]byte{byte(ink)}), 64) }

// pixels is a picture with an ink at some pixels.
func pixels(ink int, places ...int) string {
	b := make([]byte, 64)
	for _, i := range places {
		b[i] = byte(ink)
	}
	return string(b)
}

// with is the feature with another Id, ink and rank.
func with(f api.Feature, id int, ink int, rank int) api.Feature {
	f.Id, f.Ink, f.Rank = id, ink, rank
	return f
}

func wantPaint(t *testing.T, fs []api.Feature, k api.Key, want string) {
	t.Helper()
	if s, e := shape.Paint(fs, k); s != want || e != api.OK {
		t.Errorf("P8: Paint(%+v, %+v) = %x, %d, want %x", fs, k, s, e, want)
	}
}

func wantPaintError(t *testing.T, fs []api.Feature, k api.Key, want api.Errno) {
	t.Helper()
	if s, e := shape.Paint(fs, k); s != "" || e != want {
		t.Errorf("P8: Paint of %d features, %+v = %x, %d, want %d", len(fs), k, s, e, want)
	}
}

// TestPaintExample: the section Examples.
func TestPaintExample(t *testing.T) {
	f := with(area(0, 0, 64, 0, 64, 32, 0, 32), 1, 7, 0)
	wantPaint(t, []api.Feature{f}, api.Key{Z: 22}, pixels(7, 0, 1))
	s, _ := shape.Paint([]api.Feature{f}, api.Key{Z: 22})
	body, e := wire.Pack(s)
	if hex.EncodeToString([]byte(body)) != "5417f0f0f0d00fc8" || e != api.OK {
		t.Errorf("P8: the body of the tile is %x, %d", body, e)
	}
}

// TestPaintNothing: P8, no feature.
func TestPaintNothing(t *testing.T) {
	for zoom := 0; zoom <= 22; zoom++ {
		for layer := 0; layer < 4; layer++ {
			k := api.Key{Layer: layer, Z: zoom, X: 1<<zoom - 1, Y: 1<<zoom - 1}
			wantPaint(t, nil, k, inked(0))
			wantPaint(t, []api.Feature{}, k, inked(0))
		}
	}
}

// TestPaintPixels: P8, each pixel takes its ink at its centre, at every zoom.
func TestPaintPixels(t *testing.T) {
	for zoom := 0; zoom <= 22; zoom++ {
		u := unitOf(zoom)
		last := 1<<zoom - 1
		for _, k := range []api.Key{{Z: zoom}, {Z: zoom, X: last}, {Z: zoom, Y: last}, {Z: zoom, X: last, Y: last}, {Z: zoom, X: last / 2, Y: last / 3}} {
			for i := 0; i < 64; i++ {
				left, top := 8*k.X*u+(i%8)*u, 8*k.Y*u+(i/8)*u
				x, y := left+u/2, top+u/2
				wantPaint(t, []api.Feature{upright(left, top, left+u, top+u)}, k, pixels(1, i))
				// The centre alone, and a box that just leaves it out.
				wantPaint(t, []api.Feature{upright(x, y, x+1, y+1)}, k, pixels(1, i))
				wantPaint(t, []api.Feature{upright(left, top, x, top+u)}, k, inked(0))
				wantPaint(t, []api.Feature{upright(left, top, left+u, y)}, k, inked(0))
				wantPaint(t, []api.Feature{upright(x+1, top, left+u, top+u)}, k, inked(0))
				wantPaint(t, []api.Feature{upright(left, y+1, left+u, top+u)}, k, inked(0))
			}
		}
	}
}

// TestPaintDots: P8, dots in tiles and across their edges.
func TestPaintDots(t *testing.T) {
	for zoom := 2; zoom <= 22; zoom++ {
		u := unitOf(zoom)
		at := func(size int, column int, row int) []api.Feature {
			return []api.Feature{dot(size, column*u+u/2, row*u+u/2)}
		}
		k := api.Key{Z: zoom}
		wantPaint(t, at(1, 1, 1), k, pixels(1, 1, 8, 9, 10, 17))
		wantPaint(t, at(2, 0, 0), k, pixels(1, 0, 1, 2, 8, 9, 16))
		wantPaint(t, at(3, 0, 0), k, pixels(1, 0, 1, 2, 3, 8, 9, 10, 16, 17, 18, 24))
		wantPaint(t, at(1, 8, 0), k, pixels(1, 7))
		wantPaint(t, at(1, 8, 0), api.Key{Z: zoom, X: 1}, pixels(1, 0, 1, 8))
		wantPaint(t, at(1, 7, 8), k, pixels(1, 63))
		wantPaint(t, at(1, 7, 8), api.Key{Z: zoom, Y: 1}, pixels(1, 6, 7, 15))
		wantPaint(t, at(1, 7, 8), api.Key{Z: zoom, X: 1, Y: 1}, pixels(1, 0))
		wantPaint(t, at(1, 7, 8), api.Key{Z: zoom, X: 1}, inked(0))
		// At the corner of four pixels.
		wantPaint(t, []api.Feature{dot(1, 3*u, 4*u)}, k, pixels(1, 26, 27, 34, 35))
	}
}

// TestPaintInks: P8, every ink, every layer, both kinds.
func TestPaintInks(t *testing.T) {
	for ink := 1; ink <= 15; ink++ {
		for layer := 0; layer < 4; layer++ {
			a, d := with(whole(), 5, ink, 3), with(dot(3, world/2, world/2), 5, ink, 3)
			a.Layer, d.Layer = layer, layer
			wantPaint(t, []api.Feature{a}, api.Key{Layer: layer}, inked(ink))
			wantPaint(t, []api.Feature{d}, api.Key{Layer: layer, Z: 22, X: 1 << 21, Y: 1 << 21}, pixels(ink, 0, 1, 2, 8, 9, 10, 16, 17))
		}
	}
}

// TestPaintShown: P8, a feature of another layer or of a greater From is not painted, whatever its rank.
func TestPaintShown(t *testing.T) {
	for zoom := 0; zoom <= 22; zoom++ {
		for from := 0; from <= 22; from++ {
			for layer := 0; layer < 4; layer++ {
				k := api.Key{Layer: 2, Z: zoom}
				f, below := with(whole(), 9, 6, 9), with(whole(), 1, 3, 0)
				f.Layer, f.From = layer, from
				below.Layer = 2
				over, alone := 3, 0
				if layer == 2 && from <= zoom {
					over, alone = 6, 6
				}
				wantPaint(t, []api.Feature{f}, k, inked(alone))
				wantPaint(t, []api.Feature{f, below}, k, inked(over))
				wantPaint(t, []api.Feature{below, f}, k, inked(over))
			}
		}
	}
}

// orders gives all orders of a list.
func orders(fs []api.Feature) [][]api.Feature {
	if len(fs) == 0 {
		return [][]api.Feature{{}}
	}
	var all [][]api.Feature
	for i := range fs {
		var others []api.Feature
		others = append(others, fs[:i]...)
		others = append(others, fs[i+1:]...)
		for _, rest := range orders(others) {
			all = append(all, append([]api.Feature{fs[i]}, rest...))
		}
	}
	return all
}

// TestPaintOrder: P8, of several the highest Rank, then the highest Id, then the last in the list.
func TestPaintOrder(t *testing.T) {
	k := api.Key{Z: 3, X: 2, Y: 5}
	for _, c := range []struct {
		name string
		fs   []api.Feature
		ink  int
	}{
		{"Rank", []api.Feature{with(whole(), 1, 4, 9), with(whole(), 1000, 15, 8), with(whole(), 999, 14, 0)}, 4},
		{"Rank, alike Ids", []api.Feature{with(whole(), 7, 4, 1), with(whole(), 7, 5, 0), with(whole(), 7, 6, 0)}, 4},
		{"Id", []api.Feature{with(whole(), 2, 15, 1), with(whole(), 3, 1, 1), with(whole(), 1, 14, 1)}, 1},
		{"Id, at rank 0", []api.Feature{with(whole(), 1, 15, 0), with(whole(), 1000, 1, 0), with(whole(), 999, 14, 0)}, 1},
		{"Rank, then Id", []api.Feature{with(whole(), 9, 2, 4), with(whole(), 8, 3, 5), with(whole(), 7, 4, 5), with(whole(), 1000, 5, 0)}, 3},
	} {
		for _, fs := range orders(c.fs) {
			if s, e := shape.Paint(fs, k); s != inked(c.ink) || e != api.OK {
				t.Errorf("P8: %s: Paint(%+v) = %x, %d", c.name, fs, s, e)
			}
		}
	}
	alike := []api.Feature{with(whole(), 7, 4, 1), with(whole(), 7, 11, 1), with(whole(), 7, 2, 1), with(whole(), 6, 15, 1), with(whole(), 7, 14, 0)}
	for _, fs := range orders(alike) {
		last := 0
		for _, f := range fs {
			if f.Id == 7 && f.Rank == 1 {
				last = f.Ink
			}
		}
		wantPaint(t, fs, k, inked(last))
	}
}

// TestPaintOverlap: P8, each pixel by itself: what does not cover it does not matter to it.
func TestPaintOverlap(t *testing.T) {
	k := api.Key{Z: 22}
	low, high := with(upright(0, 0, 128, 256), 2, 3, 0), with(upright(64, 0, 256, 256), 1, 8, 1)
	want := ""
	for i := 0; i < 8; i++ {
		want += "\x03\x03\x08\x08\x08\x08\x08\x08"
	}
	wantPaint(t, []api.Feature{low, high}, k, want)
	wantPaint(t, []api.Feature{high, low}, k, want)
}

// TestPaintSome: P8, against what the document says, of lists of all lengths.
func TestPaintSome(t *testing.T) {
	source := rand.New(rand.NewSource(11))
	for i := 0; i < 150; i++ {
		k := someKey(source, source.Intn(world+1), source.Intn(world+1))
		var fs []api.Feature
		for n := source.Intn(41); n > 0; n-- {
			f := inTile(source, k)
			f.Id, f.Rank = 1+source.Intn(4), source.Intn(3)
			if source.Intn(4) == 0 {
				f.Layer = source.Intn(4)
			}
			if source.Intn(4) == 0 {
				f.From = source.Intn(23)
			}
			fs = append(fs, f)
		}
		comparePaint(t, fs, k)
	}
}

// TestPaintErrors: P8 and P1, the error of the key, ErrFull, ErrShape, in this order.
func TestPaintErrors(t *testing.T) {
	right := make([]api.Feature, 1000)
	for i := range right {
		right[i] = with(whole(), 1+i%40, 1+i%15, 0)
	}
	wrong := make([]api.Feature, 100000)
	k := api.Key{Layer: 0, Z: 22}
	keys, errors := wrongKeys()
	for i, bad := range keys {
		for _, fs := range [][]api.Feature{nil, {}, right[:1], right[:40], right[:41], wrong[:1], wrong[:40], wrong[:41], wrong} {
			wantPaintError(t, fs, bad, errors[i])
		}
	}
	wantPaint(t, right[:40], k, inked(1+39%15))
	for _, fs := range [][]api.Feature{right[:41], right, wrong[:41], wrong, append(wrong[:40:40], whole())} {
		wantPaintError(t, fs, k, api.ErrFull)
	}
	for n := 1; n <= 40; n++ {
		wantPaintError(t, wrong[:n], k, api.ErrShape)
		for i := 0; i < n; i++ {
			fs := append([]api.Feature{}, right[:n]...)
			fs[i].Ink = 0
			wantPaintError(t, fs, k, api.ErrShape)
			// One that would not be painted is not let through either.
			fs[i].Layer = 3
			wantPaintError(t, fs, k, api.ErrShape)
			fs[i].From = 22
			wantPaintError(t, fs, api.Key{}, api.ErrShape)
		}
	}
}
