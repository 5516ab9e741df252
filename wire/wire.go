// Package wire: paths, tags and the bytes of tiles: see DOC.md.
package wire

import (
	"strconv"

	"atlas/api"
	"atlas/grid"
)

// Parse reads a path (P3).
func Parse(path string) (api.Key, api.Errno) {
	p, formed := split(path)
	if !formed {
		return api.Key{}, api.ErrPath
	}
	var k api.Key
	k.Layer = layerOf(p.name)
	k.Z = value(p.z)
	k.X = value(p.x)
	k.Y = value(p.y)
	e := grid.KeyError(k)
	if e != api.OK {
		return api.Key{}, e
	}
	return k, api.OK
}

// Print writes a key's path (P4).
func Print(k api.Key) (string, api.Errno) {
	e := grid.KeyError(k)
	if e != api.OK {
		return "", e
	}
	path := "/" + layerNames[k.Layer]
	path += "/" + strconv.Itoa(k.Z)
	path += "/" + strconv.Itoa(k.X)
	path += "/" + strconv.Itoa(k.Y)
	return path + "." + ending, api.OK
}

// Tag writes a key's tag at a version (P4).
func Tag(k api.Key, version int) (string, api.Errno) {
	path, e := Print(k)
	if e != api.OK {
		return "", e
	}
	if version < 0 || version > api.MaxVersion {
		return "", api.ErrVersion
	}
	return path + "@" + strconv.Itoa(version), api.OK
}

// Pack makes a picture's body (P5).
func Pack(inks string) (string, api.Errno) {
	if !isPicture(inks) {
		return "", api.ErrInks
	}
	body := []byte{letter}
	for i := 0; i < len(inks); {
		length := runLength(inks, i)
		body = append(body, byte((length-1)*shades)+inks[i])
		i += length
	}
	first, second := checks(inks)
	body = append(body, first, second)
	return string(body), api.OK
}

// Unpack gives back a body's picture (P6).
func Unpack(body string) (string, api.Errno) {
	if len(body) < api.MinBody || len(body) > api.MaxBody {
		return "", api.ErrBody
	}
	inks := spread(body[1 : len(body)-2])
	// A picture has one body alone, so packing it anew judges the letter, the
	// runs and the check bytes at once.
	again, e := Pack(inks)
	if e != api.OK || again != body {
		return "", api.ErrBody
	}
	return inks, api.OK
}
