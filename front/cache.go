package front

import "atlas/api"

type cache struct {
	room  int
	tiles []tile // that whose last use is the longest ago stands first
}

// bytes tells what the cache takes.
func (c *cache) bytes() int {
	sum := 0
	for i := 0; i < len(c.tiles); i++ {
		sum += len(c.tiles[i].body)
	}
	return sum
}

func (c *cache) takeOut(k api.Key) {
	left := []tile{}
	for i := 0; i < len(c.tiles); i++ {
		if c.tiles[i].key != k {
			left = append(left, c.tiles[i])
		}
	}
	c.tiles = left
}

// use makes an entry the one that was used last.
func (c *cache) use(t tile) {
	c.takeOut(t.key)
	c.tiles = append(c.tiles, t)
}

// lay lays a tile in, if there can be room for it.
func (c *cache) lay(t tile) {
	if len(t.body) > c.room {
		return
	}
	// The old entry goes first, so that no other goes for the room it takes.
	c.takeOut(t.key)
	for len(c.tiles) > 0 && c.bytes()+len(t.body) > c.room {
		oldest := c.tiles[0].key
		c.takeOut(oldest)
	}
	c.tiles = append(c.tiles, t)
}

// layUnchanged lays those tiles into the cache that are still as they were at
// the version reads.
func (f *Front) layUnchanged(tiles []tile, reads int) {
	for i := 0; i < len(tiles); i++ {
		if f.isUnchanged(tiles[i].key, reads) {
			f.cache.lay(tiles[i])
		}
	}
}

// dropTouched takes those entries out of the cache that the batch of the newest
// version touches.
func (f *Front) dropTouched(newest int) {
	left := []tile{}
	for i := 0; i < len(f.cache.tiles); i++ {
		if f.isUnchanged(f.cache.tiles[i].key, newest-1) {
			left = append(left, f.cache.tiles[i])
		}
	}
	f.cache.tiles = left
}
