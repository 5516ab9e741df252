package front

import "atlas/api"

// blockOf gives the own key of the block that a tile is of.
func blockOf(k api.Key) api.Key {
	k.X -= k.X % 2
	k.Y -= k.Y % 2
	return k
}

// keysOf gives the keys of a block's tiles, in the order in which they are laid
// into the cache.
func keysOf(block api.Key) []api.Key {
	if block.Z == 0 {
		return []api.Key{block}
	}
	keys := []api.Key{}
	for y := block.Y; y <= block.Y+1; y++ {
		for x := block.X; x <= block.X+1; x++ {
			keys = append(keys, api.Key{Layer: block.Layer, Z: block.Z, X: x, Y: y})
		}
	}
	return keys
}
