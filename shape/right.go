package shape

import "atlas/api"

// minCorners is the least number of points of an area.
const minCorners = 3

// within tells whether n is from least to most.
func within(n int, least int, most int) bool {
	return n >= least && n <= most
}

// isPlace tells whether n may be the X or the Y of a point of the world.
func isPlace(n int) bool {
	return within(n, 0, api.World)
}

// hasTraits tells whether what all kinds of features have is in its range.
func hasTraits(f api.Feature) bool {
	if !within(f.Id, 1, api.MaxId) || !within(f.Layer, 0, api.Layers-1) {
		return false
	}
	if !within(f.Ink, 1, api.MaxInk) || !within(f.Rank, 0, api.MaxRank) {
		return false
	}
	return within(f.From, 0, api.MaxZoom)
}

// hasForm tells whether a feature is of a kind, with the size and the number of
// points of that kind.
func hasForm(f api.Feature) bool {
	switch f.Kind {
	case api.Area:
		return f.Size == 0 && within(f.N, minCorners, api.MaxPoints)
	case api.Dot:
		return within(f.Size, 1, api.MaxSize) && f.N == 1
	}
	return false
}

// hasPoints tells whether the points of a feature are in the world, and nought
// (which is a place too) stands behind them, however many N says that there are.
func hasPoints(f api.Feature) bool {
	for i := 0; i < api.MaxPoints; i++ {
		if !isPlace(f.Xs[i]) || !isPlace(f.Ys[i]) {
			return false
		}
		if i >= f.N && (f.Xs[i] != 0 || f.Ys[i] != 0) {
			return false
		}
	}
	return true
}
