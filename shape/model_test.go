package shape_test

import (
	"math"
	"math/big"
	"math/rand"
	"sort"
	"testing"

	"atlas/api"
	"atlas/shape"
)

const world = 1 << 30

// area with the points (p[0], p[1]), (p[2], p[3]) and so on.
func area(p ...int) api.Feature {
	f := api.Feature{Id: 1, Ink: 1, N: len(p) / 2}
	for i := 0; i < len(p)/2; i++ {
		f.Xs[i], f.Ys[i] = p[2*i], p[2*i+1]
	}
	return f
}

func dot(size int, x int, y int) api.Feature {
	f := api.Feature{Id: 1, Kind: api.Dot, Ink: 1, Size: size, N: 1}
	f.Xs[0], f.Ys[0] = x, y
	return f
}

// upright is the box from (left, top) to (right, bottom), as an area.
func upright(left int, top int, right int, bottom int) api.Feature {
	return area(left, top, right, top, right, bottom, left, bottom)
}

func whole() api.Feature { return upright(0, 0, world, world) }

// unitOf a zoom, by doubling.
func unitOf(zoom int) int {
	u := 32
	for z := 22; z > zoom; z-- {
		u *= 2
	}
	return u
}

// extremes are numbers that no field may have, and no zoom, and no place.
var extremes = []int{math.MinInt, math.MinInt + 1, -world, -64, -1, world + 1, math.MaxInt32, math.MaxInt - 1, math.MaxInt}

// field of a feature: its name, how to come by it, and its range in an area and in a dot.
type field struct {
	name               string
	of                 func(f *api.Feature) *int
	areaFrom, areaUpTo int
	dotFrom, dotUpTo   int
}

var fields = []field{
	{"Id", func(f *api.Feature) *int { return &f.Id }, 1, 1000, 1, 1000},
	{"Layer", func(f *api.Feature) *int { return &f.Layer }, 0, 3, 0, 3},
	{"Kind", func(f *api.Feature) *int { return &f.Kind }, 0, 0, 1, 1},
	{"Ink", func(f *api.Feature) *int { return &f.Ink }, 1, 15, 1, 15},
	{"Rank", func(f *api.Feature) *int { return &f.Rank }, 0, 9, 0, 9},
	{"From", func(f *api.Feature) *int { return &f.From }, 0, 22, 0, 22},
	{"Size", func(f *api.Feature) *int { return &f.Size }, 0, 0, 1, 3},
	{"N", func(f *api.Feature) *int { return &f.N }, 3, 8, 1, 1},
}

// rightModel: the section Words, when a feature is right.
func rightModel(f api.Feature) bool {
	for _, d := range fields {
		n := *d.of(&f)
		if f.Kind == api.Dot && (n < d.dotFrom || n > d.dotUpTo) || f.Kind != api.Dot && (n < d.areaFrom || n > d.areaUpTo) {
			return false
		}
	}
	for i := range f.Xs {
		most := 0
		if i < f.N {
			most = world
		}
		if f.Xs[i] < 0 || f.Xs[i] > most || f.Ys[i] < 0 || f.Ys[i] > most {
			return false
		}
	}
	return true
}

// distance squared, of whatever size.
func distance(x int, y int) *big.Int {
	a, b := big.NewInt(int64(x)), big.NewInt(int64(y))
	return a.Add(a.Mul(a, a), b.Mul(b, b))
}

// crossing tells where the edge from point i to point j comes to the level y; false, if it does not.
func crossing(f api.Feature, i int, j int, y int) (*big.Rat, bool) {
	if (f.Ys[i] > y) == (f.Ys[j] > y) {
		return nil, false
	}
	x := big.NewRat(int64(y-f.Ys[i]), int64(f.Ys[j]-f.Ys[i]))
	x.Mul(x, big.NewRat(int64(f.Xs[j]-f.Xs[i]), 1))
	return x.Add(x, big.NewRat(int64(f.Xs[i]), 1)), true
}

// coversModel: the section Words and P7. An area covers what has an odd number of crossings to its right.
func coversModel(f api.Feature, zoom int, x int, y int) bool {
	if !rightModel(f) || zoom < 0 || zoom > 22 || x < 0 || x > world || y < 0 || y > world {
		return false
	}
	if f.Kind == api.Dot {
		return distance(x-f.Xs[0], y-f.Ys[0]).Cmp(distance(f.Size*unitOf(zoom), 0)) <= 0
	}
	beyond := 0
	for i := 0; i < f.N; i++ {
		at, crosses := crossing(f, i, (i+1)%f.N, y)
		if crosses && at.Cmp(big.NewRat(int64(x), 1)) > 0 {
			beyond++
		}
	}
	return beyond%2 == 1
}

// keyModel: the section Words, the error of a key.
func keyModel(k api.Key) api.Errno {
	switch {
	case k.Layer < 0 || k.Layer > 3:
		return api.ErrLayer
	case k.Z < 0 || k.Z > 22:
		return api.ErrZoom
	case k.X < 0 || k.Y < 0 || k.X >= 1<<k.Z || k.Y >= 1<<k.Z:
		return api.ErrPlace
	}
	return api.OK
}

// touchesModel: the section Words and P7.
func touchesModel(f api.Feature, k api.Key) bool {
	if !rightModel(f) || keyModel(k) != api.OK || f.Layer != k.Layer || f.From > k.Z {
		return false
	}
	u := unitOf(k.Z)
	xs := append([]int{}, f.Xs[:f.N]...)
	ys := append([]int{}, f.Ys[:f.N]...)
	if f.Kind == api.Dot {
		xs = []int{xs[0] - f.Size*u, xs[0] + f.Size*u}
		ys = []int{ys[0] - f.Size*u, ys[0] + f.Size*u}
	}
	sort.Ints(xs)
	sort.Ints(ys)
	// What is common of two boxes goes from the greater beginning to the lesser end.
	left, right := max(xs[0], 8*k.X*u), min(xs[len(xs)-1], 8*(k.X+1)*u)
	top, bottom := max(ys[0], 8*k.Y*u), min(ys[len(ys)-1], 8*(k.Y+1)*u)
	return left <= right && top <= bottom
}

// centreModel: the section Words, the centre of a pixel.
func centreModel(k api.Key, pixel int) (int, int) {
	u := unitOf(k.Z)
	c, r := pixel%8, pixel/8
	return 8*k.X*u + c*u + u/2, 8*k.Y*u + r*u + u/2
}

// paintModel: the section Words, the tile, and P8.
func paintModel(fs []api.Feature, k api.Key) (string, api.Errno) {
	if e := keyModel(k); e != api.OK {
		return "", e
	}
	if len(fs) > 40 {
		return "", api.ErrFull
	}
	for _, f := range fs {
		if !rightModel(f) {
			return "", api.ErrShape
		}
	}
	inks := make([]byte, 64)
	for i := range inks {
		x, y := centreModel(k, i)
		var over []api.Feature
		for _, f := range fs {
			if f.Layer == k.Layer && f.From <= k.Z && coversModel(f, k.Z, x, y) {
				over = append(over, f)
			}
		}
		sort.SliceStable(over, func(a, b int) bool { return 10000*over[a].Rank+over[a].Id < 10000*over[b].Rank+over[b].Id })
		if len(over) > 0 {
			inks[i] = byte(over[len(over)-1].Ink)
		}
	}
	return string(inks), api.OK
}

// someFeature is a right one in the square from (left, top), of the side room, which may be cut off by the world's end.
func someFeature(source *rand.Rand, left int, top int, room int) api.Feature {
	f := api.Feature{Id: 1 + source.Intn(1000), Layer: source.Intn(4), Ink: 1 + source.Intn(15), Rank: source.Intn(10), From: source.Intn(23), N: 3 + source.Intn(6)}
	if source.Intn(3) == 0 {
		f.Kind, f.Size, f.N = api.Dot, 1+source.Intn(3), 1
	}
	for i := 0; i < f.N; i++ {
		f.Xs[i] = min(left+source.Intn(room+1), world)
		f.Ys[i] = min(top+source.Intn(room+1), world)
		if i > 0 && source.Intn(5) == 0 {
			f.Xs[i] = f.Xs[i-1]
		}
		if i > 0 && source.Intn(5) == 0 {
			f.Ys[i] = f.Ys[i-1]
		}
	}
	return f
}

// someKey has a square that is not far from (x, y).
func someKey(source *rand.Rand, x int, y int) api.Key {
	k := api.Key{Layer: source.Intn(4), Z: source.Intn(23)}
	side := 8 * unitOf(k.Z)
	last := 1<<k.Z - 1
	k.X = max(0, min(last, x/side+source.Intn(3)-1))
	k.Y = max(0, min(last, y/side+source.Intn(3)-1))
	return k
}

// inTile is a right feature that is about as large as the key's square and near to it.
func inTile(source *rand.Rand, k api.Key) api.Feature {
	side := 8 * unitOf(k.Z)
	left := max(0, min(world, k.X*side-side/4))
	top := max(0, min(world, k.Y*side-side/4))
	f := someFeature(source, left, top, side+side/2)
	f.Layer = k.Layer
	f.From = source.Intn(k.Z + 1)
	return f
}

// compare all answers on one feature with the model's.
func compare(t *testing.T, f api.Feature, k api.Key, x int, y int) {
	t.Helper()
	if e := shape.Check(f); (e == api.OK) != rightModel(f) || e != api.OK && e != api.ErrShape {
		t.Errorf("P7: Check(%+v) = %d", f, e)
	}
	if in, want := shape.Covers(f, k.Z, x, y), coversModel(f, k.Z, x, y); in != want {
		t.Errorf("P7: Covers(%+v, %d, %d, %d) = %v, want %v", f, k.Z, x, y, in, want)
	}
	if on, want := shape.Touches(f, k), touchesModel(f, k); on != want {
		t.Errorf("P7: Touches(%+v, %+v) = %v, want %v", f, k, on, want)
	}
	comparePaint(t, []api.Feature{f}, k)
}

func comparePaint(t *testing.T, fs []api.Feature, k api.Key) {
	t.Helper()
	s, e := shape.Paint(fs, k)
	want, wantError := paintModel(fs, k)
	if s != want || e != wantError {
		t.Errorf("P8: Paint(%+v, %+v) = %x, %d, want %x, %d", fs, k, s, e, want, wantError)
	}
}
