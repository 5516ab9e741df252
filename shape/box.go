package shape

import "atlas/api"

// span is a stretch along X or along Y, both ends included.
type span struct {
	least, most int
}

// meet tells whether two spans have a place in common.
func meet(a span, b span) bool {
	return a.least <= b.most && b.least <= a.most
}

// boxSide gives the side of a feature's box along X, if places are its Xs, or
// along Y, if they are its Ys. Since an area has Size 0, and a dot one point,
// one rule does for both.
func boxSide(f api.Feature, places [api.MaxPoints]int, unit int) span {
	s := span{least: places[0], most: places[0]}
	for i := 1; i < f.N && i < api.MaxPoints; i++ {
		if places[i] < s.least {
			s.least = places[i]
		}
		if places[i] > s.most {
			s.most = places[i]
		}
	}
	reach := f.Size * unit
	return span{least: s.least - reach, most: s.most + reach}
}

// squareSide gives the side of a key's square along X or along Y.
func squareSide(place int, unit int) span {
	return span{least: api.Side * place * unit, most: api.Side * (place + 1) * unit}
}
