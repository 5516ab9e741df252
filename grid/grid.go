// Package grid: which keys there are: see DOC.md, the section Words.
package grid

import "atlas/api"

// KeyError gives the error of a key, OK if it names a tile.
func KeyError(k api.Key) api.Errno {
	if k.Layer < 0 || k.Layer >= api.Layers {
		return api.ErrLayer
	}
	if k.Z < 0 || k.Z > api.MaxZoom {
		return api.ErrZoom
	}
	tiles := 1 << k.Z
	if k.X < 0 || k.X >= tiles || k.Y < 0 || k.Y >= tiles {
		return api.ErrPlace
	}
	return api.OK
}
