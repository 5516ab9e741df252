package shape

import "atlas/api"

type point struct {
	x, y int
}

// covers tells whether a feature that is right covers a point of the world.
func covers(f api.Feature, unit int, p point) bool {
	if f.Kind == api.Dot {
		return isNear(point{x: f.Xs[0], y: f.Ys[0]}, f.Size*unit, p)
	}
	odd := false
	for i := 0; i < f.N; i++ {
		if counts(corner(f, i), corner(f, i+1), p) {
			odd = !odd
		}
	}
	return odd
}

// corner gives point i of a feature; behind the last one the first comes again.
func corner(f api.Feature, i int) point {
	if i < 0 || i >= f.N || i >= api.MaxPoints {
		return point{x: f.Xs[0], y: f.Ys[0]}
	}
	return point{x: f.Xs[i], y: f.Ys[i]}
}

// isNear tells whether p is at most reach away from the middle.
func isNear(middle point, reach int, p point) bool {
	right := p.x - middle.x
	down := p.y - middle.y
	return product(right, right)+product(down, down) <= product(reach, reach)
}

// counts tells whether the edge from a to b counts for p.
func counts(a point, b point, p point) bool {
	if (a.y > p.y) == (b.y > p.y) {
		return false
	}
	low, high := a, b
	if b.y < a.y {
		low, high = b, a
	}
	return product(high.x-low.x, p.y-low.y) > product(p.x-low.x, high.y-low.y)
}

// product is of 64 bits wherever it is built: two lengths of the world, up to
// 2^30 each, are too much for an int of 32.
func product(a int, b int) int64 {
	return int64(a) * int64(b)
}
