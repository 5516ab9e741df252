package front

import (
	"atlas/api"
	"atlas/shape"
	"atlas/wire"
)

// tile is a tile as it is given out.
type tile struct {
	key  api.Key
	body string
	tag  string
}

// find gives the tile with a key; false, if there is none.
func find(tiles []tile, k api.Key) (tile, bool) {
	for i := 0; i < len(tiles); i++ {
		if tiles[i].key == k {
			return tiles[i], true
		}
	}
	return tile{}, false
}

// paint paints the tiles of a flight's block.
func (f *Front) paint(taken *flight) []tile {
	tiles := []tile{}
	keys := keysOf(taken.block)
	for i := 0; i < len(keys); i++ {
		t, e := f.paintTile(taken, keys[i])
		if e == api.OK {
			tiles = append(tiles, t)
		}
	}
	return tiles
}

func (f *Front) paintTile(taken *flight, k api.Key) (tile, api.Errno) {
	inks, e := shape.Paint(taken.read, k)
	if e != api.OK {
		return tile{}, e
	}
	body, e := wire.Pack(inks)
	if e != api.OK {
		return tile{}, e
	}
	tag, e := f.tagAt(taken.reads, k)
	if e != api.OK {
		return tile{}, e
	}
	return tile{key: k, body: body, tag: tag}, api.OK
}

// tagAt gives the tag of a key's tile, of a version.
func (f *Front) tagAt(version int, k api.Key) (string, api.Errno) {
	stamp, e := f.features.Stamp(version, k)
	if e != api.OK {
		return "", e
	}
	return wire.Tag(k, stamp)
}

// isUnchanged tells whether no batch behind a version touches a key.
func (f *Front) isUnchanged(k api.Key, reads int) bool {
	version := f.features.Version()
	stamp, e := f.features.Stamp(version, k)
	return e == api.OK && stamp <= reads
}
