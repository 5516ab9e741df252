package front_test

import (
	"math/rand"
	"sort"

	"atlas/api"
)

// someConfig has small numbers more often than great ones, so that queues are full, caches run over and requests are late.
func someConfig(source *rand.Rand) api.Config {
	caches := []int{0, 6, 7, 8, 14, 21, 28, 30, 40, 60, 100, 150, 300, 1000, 2000}
	c := api.Config{Queue: 1 + source.Intn(8), Workers: 1 + source.Intn(4), Wait: 1 + source.Intn(12), Cache: caches[source.Intn(len(caches))], Chunk: 1 + source.Intn(8)}
	if source.Intn(3) == 0 {
		c.Wait = 1 + source.Intn(50)
	}
	return c
}

// someKey is most often one of a few, so that requests meet each other, the features and the cache.
func someKey(source *rand.Rand) api.Key {
	k := api.Key{Layer: source.Intn(2), Z: 22, X: source.Intn(4), Y: source.Intn(4)}
	switch source.Intn(10) {
	case 0:
		k = api.Key{Layer: source.Intn(4)}
	case 1:
		k = api.Key{Layer: source.Intn(2), Z: 1, X: source.Intn(2), Y: source.Intn(2)}
	case 2:
		k.Z = 20 + source.Intn(2)
	case 3:
		k.X, k.Y = 1<<22-1-source.Intn(3), 1<<22-1-source.Intn(3)
	}
	return k
}

// someFeature is a right one, small and near a corner of the world, seldom a great one.
func someFeature(source *rand.Rand) api.Feature {
	f := api.Feature{Id: 1 + source.Intn(50), Layer: source.Intn(2), Ink: 1 + source.Intn(15), Rank: source.Intn(3), From: 20 + source.Intn(3), N: 3 + source.Intn(6)}
	left, top, size := 100*source.Intn(10), 100*source.Intn(10), 400
	switch source.Intn(12) {
	case 0:
		f.From = 0
	case 1:
		left, top, size, f.From = 0, 0, 1<<30, source.Intn(2)
	case 2:
		left, top = 1<<30-800, 1<<30-800
	}
	if source.Intn(3) == 0 {
		f.Kind, f.Size, f.N = api.Dot, 1+source.Intn(3), 1
	}
	for i := 0; i < f.N; i++ {
		f.Xs[i], f.Ys[i] = left+source.Intn(size+1), top+source.Intn(size+1)
	}
	return f
}

// someBatch is most often one that is not refused: of the Ids that are there, and of others.
func someBatch(source *rand.Rand, h *history) []api.Edit {
	var batch []api.Edit
	var ids []int
	for id := range h.sets[h.version()] {
		ids = append(ids, id)
	}
	sort.Ints(ids)
	most := 2
	if source.Intn(3) == 0 {
		most = 8
	}
	for n := 1 + source.Intn(most); n > 0; n-- {
		edit := put(someFeature(source))
		if len(ids) > 0 && source.Intn(5) < 2 {
			edit.F.Id = ids[source.Intn(len(ids))]
			edit.Op = source.Intn(2)
		}
		switch source.Intn(100) {
		case 0:
			edit.Op = 2
		case 1:
			edit.F.Ink = 16
		case 2:
			edit = drop(source.Intn(1002))
		}
		batch = append(batch, edit)
	}
	switch source.Intn(50) {
	case 0:
		return nil
	case 1:
		return make([]api.Edit, 9)
	}
	return batch
}

// somePath is most often that of a key.
func somePath(source *rand.Rand, k api.Key) string {
	if source.Intn(12) > 0 {
		return path(k)
	}
	wrong := []string{"", "/", "/land/22/0/0", "land/22/0/0.tile", "/Land/22/0/0.tile", "/land/022/0/0.tile", "/sea/22/0/0.tile", "/land/23/0/0.tile", "/land/22/4194304/0.tile", "/land/0/0/1.tile", "/water/1/2/0.tile", "/\x00/\xff", "/land/22/0/0.tile@0"}
	return wrong[source.Intn(len(wrong))]
}

// someTag is none, the present one of the key, an older one, one of another key, or no tag at all.
func someTag(source *rand.Rand, h *history, k api.Key) string {
	switch source.Intn(8) {
	case 0:
		return tag(k, h.stamp(h.version(), k))
	case 1:
		return tag(k, source.Intn(h.version()+1))
	case 2:
		other := someKey(source)
		return tag(other, h.stamp(h.version(), other))
	case 3:
		return []string{"@", "@0", path(k), path(k) + "@", path(k) + "@00", "\xff\x00", "304"}[source.Intn(7)]
	}
	return ""
}
