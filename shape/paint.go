package shape

import (
	"atlas/api"
	"atlas/grid"
)

// shows tells whether a feature is of the key's layer and of its zoom.
func shows(f api.Feature, k api.Key) bool {
	return f.Layer == k.Layer && f.From <= k.Z
}

// inkOf gives the ink of a pixel of a key's tile.
func inkOf(fs []api.Feature, k api.Key, pixel int) byte {
	unit := grid.Unit(k.Z)
	p := centre(k, unit, pixel)
	// The zero feature has ink 0 and the Id 0, so that it lies below every
	// feature that is right, and is left where there is none.
	top := api.Feature{}
	for i := 0; i < len(fs); i++ {
		if shows(fs[i], k) && !isAbove(top, fs[i]) && covers(fs[i], unit, p) {
			top = fs[i]
		}
	}
	return byte(top.Ink)
}

// isAbove tells whether a hides b, wherever in the list each of them stands.
func isAbove(a api.Feature, b api.Feature) bool {
	if a.Rank != b.Rank {
		return a.Rank > b.Rank
	}
	return a.Id > b.Id
}

// centre gives the centre of a pixel of a key's tile.
func centre(k api.Key, unit int, pixel int) point {
	column := api.Side*k.X + pixel%api.Side
	row := api.Side*k.Y + pixel/api.Side
	return point{x: column*unit + unit/2, y: row*unit + unit/2}
}
