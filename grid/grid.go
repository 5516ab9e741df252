// Package grid: which keys and zooms there are: see DOC.md, the section Words.
package grid

import "atlas/api"

// KeyError gives the error of a key, OK if it names a tile.
func KeyError(k api.Key) api.Errno {
	if k.Layer < 0 || k.Layer >= api.Layers {
		return api.ErrLayer
	}
	if !isZoom(k.Z) {
		return api.ErrZoom
	}
	tiles := 1 << k.Z
	if k.X < 0 || k.X >= tiles || k.Y < 0 || k.Y >= tiles {
		return api.ErrPlace
	}
	return api.OK
}

// Unit gives the side of a pixel at a zoom, 0 if there is no such zoom.
func Unit(zoom int) int {
	if !isZoom(zoom) {
		return 0
	}
	return (api.World / api.Side) >> zoom
}

func isZoom(zoom int) bool {
	return zoom >= 0 && zoom <= api.MaxZoom
}
