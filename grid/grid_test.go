package grid

import (
	"math"
	"testing"

	"atlas/api"
)

// TestKeyError: the section Words, a key and its error, the first that applies.
func TestKeyError(t *testing.T) {
	for _, c := range []struct {
		k api.Key
		e api.Errno
	}{
		{api.Key{}, api.OK},
		{api.Key{Layer: 3, Z: 22, X: 4194303, Y: 4194303}, api.OK},
		{api.Key{Layer: 4}, api.ErrLayer},
		{api.Key{Layer: -1}, api.ErrLayer},
		{api.Key{Layer: math.MinInt, Z: -1, X: -1, Y: -1}, api.ErrLayer},
		{api.Key{Layer: math.MaxInt, Z: 23, X: -1, Y: -1}, api.ErrLayer},
		{api.Key{Z: -1}, api.ErrZoom},
		{api.Key{Z: 23}, api.ErrZoom},
		{api.Key{Z: 64, X: -1, Y: -1}, api.ErrZoom},
		{api.Key{Z: math.MinInt, X: -1}, api.ErrZoom},
		{api.Key{Z: math.MaxInt, Y: -1}, api.ErrZoom},
		{api.Key{X: -1}, api.ErrPlace},
		{api.Key{Y: -1}, api.ErrPlace},
		{api.Key{Z: 22, X: math.MinInt}, api.ErrPlace},
		{api.Key{Z: 22, Y: math.MaxInt}, api.ErrPlace},
	} {
		if e := KeyError(c.k); e != c.e {
			t.Errorf("KeyError(%+v) = %d, want %d", c.k, e, c.e)
		}
	}
}

// TestKeyErrorPlaces: at each zoom, the last tile along each side and the one behind it.
func TestKeyErrorPlaces(t *testing.T) {
	tiles := 1
	for z := 0; z <= api.MaxZoom; z++ {
		for layer := 0; layer < api.Layers; layer++ {
			for _, c := range []struct {
				x, y int
				e    api.Errno
			}{
				{0, 0, api.OK}, {tiles - 1, 0, api.OK}, {0, tiles - 1, api.OK}, {tiles - 1, tiles - 1, api.OK},
				{tiles, 0, api.ErrPlace}, {0, tiles, api.ErrPlace}, {-1, 0, api.ErrPlace}, {0, -1, api.ErrPlace},
			} {
				k := api.Key{Layer: layer, Z: z, X: c.x, Y: c.y}
				if e := KeyError(k); e != c.e {
					t.Errorf("KeyError(%+v) = %d, want %d", k, e, c.e)
				}
			}
		}
		tiles *= 2
	}
}

// TestUnit: the section Words, the unit of each zoom, and of what is none.
func TestUnit(t *testing.T) {
	for z := 0; z <= 22; z++ {
		if u, want := Unit(z), int(math.Pow(2, float64(27-z))); u != want {
			t.Errorf("Unit(%d) = %d, want %d", z, u, want)
		}
	}
	for _, z := range []int{math.MinInt, -64, -1, 23, 27, 28, 63, 64, math.MaxInt} {
		if u := Unit(z); u != 0 {
			t.Errorf("Unit(%d) = %d, but there is no such zoom", z, u)
		}
	}
}
