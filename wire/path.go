package wire

import "atlas/api"

const (
	ending    = "tile"
	maxName   = 8
	maxDigits = 9
)

var layerNames = [api.Layers]string{"land", "water", "road", "mark"}

// parts of a path, as they are written there.
type parts struct {
	name, z, x, y string
}

// split takes a path apart; false, if it has not the form of a path.
func split(path string) (parts, bool) {
	// Where a mark is lacking, cut leaves nothing behind it, so that the
	// ending is lacking too.
	ahead, rest := cut(path, '/')
	if ahead != "" {
		return parts{}, false
	}
	name, rest := cut(rest, '/')
	z, rest := cut(rest, '/')
	x, rest := cut(rest, '/')
	y, rest := cut(rest, '.')
	if rest != ending || !isName(name) {
		return parts{}, false
	}
	if !isNumber(z) || !isNumber(x) || !isNumber(y) {
		return parts{}, false
	}
	return parts{name: name, z: z, x: x, y: y}, true
}

// cut gives what stands ahead of the first mark and what stands behind it.
func cut(s string, mark byte) (string, string) {
	for i := 0; i < len(s); i++ {
		if s[i] == mark {
			return s[:i], s[i+1:]
		}
	}
	return s, ""
}

// isName tells whether s could be the name of a layer, by its form.
func isName(s string) bool {
	return len(s) >= 1 && len(s) <= maxName && allWithin(s, 'a', 'z')
}

// isNumber tells whether s is a number as paths write them.
func isNumber(s string) bool {
	if len(s) < 1 || len(s) > maxDigits {
		return false
	}
	if len(s) > 1 && s[0] == '0' {
		return false
	}
	return allWithin(s, '0', '9')
}

// allWithin tells whether each byte of s is from least to most.
func allWithin(s string, least byte, most byte) bool {
	for i := 0; i < len(s); i++ {
		if s[i] < least || s[i] > most {
			return false
		}
	}
	return true
}

// value of a number; isNumber's bound keeps it far from overflow.
func value(digits string) int {
	n := 0
	for i := 0; i < len(digits); i++ {
		n = 10*n + int(digits[i]-'0')
	}
	return n
}

// layerOf gives the layer of a name. Of an unknown name it is -1, which makes
// a key of which the error is ErrLayer, whatever else is wrong with it.
func layerOf(name string) int {
	for layer := 0; layer < len(layerNames); layer++ {
		if layerNames[layer] == name {
			return layer
		}
	}
	return -1
}
