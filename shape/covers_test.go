package shape_test

import (
	"math/big"
	"math/rand"
	"strings"
	"testing"

	"atlas/api"
	"atlas/shape"
)

func wantCovers(t *testing.T, f api.Feature, zoom int, x int, y int, want bool) {
	t.Helper()
	if in := shape.Covers(f, zoom, x, y); in != want {
		t.Errorf("P7: Covers(%+v, %d, %d, %d) = %v, want %v", f, zoom, x, y, in, want)
	}
}

// TestCoversExamples: the section Examples.
func TestCoversExamples(t *testing.T) {
	square := area(0, 0, 10, 0, 10, 10, 0, 10)
	wantCovers(t, square, 22, 0, 0, true)
	wantCovers(t, square, 22, 9, 9, true)
	wantCovers(t, square, 22, 10, 5, false)
	wantCovers(t, square, 22, 5, 10, false)
	wantCovers(t, dot(1, 100, 100), 22, 132, 100, true)
	wantCovers(t, dot(1, 100, 100), 22, 123, 122, true)
	wantCovers(t, dot(1, 100, 100), 22, 133, 100, false)
	wantCovers(t, dot(1, 100, 100), 22, 123, 123, false)
}

// wantAround looks at a point in each of the four quarters around a dot.
func wantAround(t *testing.T, size int, zoom int, right int, down int, want bool) {
	t.Helper()
	for _, x := range []int{-right, right} {
		for _, y := range []int{-down, down} {
			wantCovers(t, dot(size, world/2+3, world/2-5), zoom, world/2+3+x, world/2-5+y, want)
		}
	}
	wantCovers(t, dot(size, 0, 0), zoom, right, down, want)
	wantCovers(t, dot(size, 0, world), zoom, right, world-down, want)
	wantCovers(t, dot(size, world, 0), zoom, world-right, down, want)
	wantCovers(t, dot(size, world, world), zoom, world-right, world-down, want)
}

// TestCoversDots: P7, dots at their radius and just beyond it, to all sides, at every zoom.
func TestCoversDots(t *testing.T) {
	for zoom := 0; zoom <= 22; zoom++ {
		for size := 1; size <= 3; size++ {
			r := size * unitOf(zoom)
			wantAround(t, size, zoom, 0, 0, true)
			for _, right := range []int{0, 1, r / 5, r / 2, r / 5 * 3, r / 10 * 7, r / 5 * 4, r - 1, r} {
				rest := distance(r, 0)
				rest.Sub(rest, distance(right, 0))
				down := int(rest.Sqrt(rest).Int64())
				wantAround(t, size, zoom, right, down, true)
				wantAround(t, size, zoom, right, down+1, false)
				wantAround(t, size, zoom, down, right, true)
				wantAround(t, size, zoom, down+1, right, false)
			}
			wantAround(t, size, zoom, r+1, 0, false)
			wantAround(t, size, zoom, 0, r+1, false)
			wantAround(t, size, zoom, r, 1, false)
			wantAround(t, size, zoom, r, r, false)
		}
	}
	// As far away as it goes.
	for size := 1; size <= 3; size++ {
		wantCovers(t, dot(size, 0, 0), 0, world, world, false)
		wantCovers(t, dot(size, world, 0), 22, 0, world, false)
	}
}

// drawn shows which points an area covers, of as many as the picture has.
func drawn(f api.Feature, picture string) string {
	rows := strings.Split(picture, "\n")
	for y := range rows {
		row := ""
		for x := range rows[y] {
			if shape.Covers(f, 22, x, y) {
				row += "#"
			} else {
				row += "."
			}
		}
		rows[y] = row
	}
	return strings.Join(rows, "\n")
}

// TestCoversDrawn: P7, areas of all forms, with the points on their edges and corners: a picture has one sign for each point of the world from (0, 0) on.
func TestCoversDrawn(t *testing.T) {
	for _, c := range []struct {
		name    string
		f       api.Feature
		picture string
	}{
		{"upright box", area(1, 1, 4, 1, 4, 3, 1, 3), ".....\n.###.\n.###.\n....."},
		{"upright box, the other way round", area(1, 3, 4, 3, 4, 1, 1, 1), ".....\n.###.\n.###.\n....."},
		{"upright box, begun elsewhere", area(4, 3, 1, 3, 1, 1, 4, 1), ".....\n.###.\n.###.\n....."},
		{"a box of one point", area(1, 1, 2, 1, 2, 2, 1, 2), "...\n.#.\n..."},
		{"triangle, upright on the left", area(0, 0, 7, 0, 0, 3), "#######.\n#####...\n###.....\n........"},
		{"triangle, upright on the right", area(0, 0, 6, 0, 6, 3), "######.\n..####.\n....##.\n......."},
		{"triangle, point up", area(3, 0, 6, 3, 0, 3), ".......\n..##...\n.####..\n......."},
		{"triangle, point down", area(0, 0, 6, 0, 3, 3), "######.\n.####..\n..##...\n......."},
		{"no level edge", area(0, 1, 4, 0, 2, 4), "......\n####..\n.##...\n..#...\n......"},
		{"diamond", area(2, 0, 4, 2, 2, 4, 0, 2), ".....\n.##..\n####.\n.##..\n....."},
		{"concave, a notch from above", area(0, 0, 3, 3, 6, 0, 6, 6, 0, 6), ".......\n#....#.\n##..##.\n######.\n######.\n######.\n......."},
		{"concave, a notch from the right", area(0, 0, 6, 0, 3, 3, 6, 6, 0, 6), "######.\n#####..\n####...\n###....\n####...\n#####..\n......."},
		{"concave, an L with level edges", area(0, 0, 2, 0, 2, 2, 5, 2, 5, 4, 0, 4), "##....\n##....\n#####.\n#####.\n......"},
		{"concave, a U with level edges", area(0, 0, 2, 0, 2, 2, 4, 2, 4, 0, 6, 0, 6, 4, 0, 4), "##..##.\n##..##.\n######.\n######.\n......."},
		{"edges that cross, upright", area(0, 0, 4, 4, 4, 0, 0, 4), ".....\n#..#.\n####.\n#..#.\n....."},
		{"edges that cross, level", area(0, 0, 4, 0, 0, 4, 4, 4), "####.\n.##..\n.....\n.##..\n....."},
		{"box in a box, not covered twice", area(0, 0, 5, 0, 5, 3, 0, 3, 0, 0, 2, 0, 2, 3, 0, 3), "..###.\n..###.\n..###.\n......"},
		{"all points alike", area(2, 2, 2, 2, 2, 2), "....\n....\n....\n...."},
		{"two points alike", area(0, 0, 3, 0, 3, 0, 3, 2, 0, 2), "###.\n###.\n...."},
		{"eight points, each twice", area(0, 0, 0, 0, 3, 0, 3, 0, 3, 2, 3, 2, 0, 2, 0, 2), "###.\n###.\n...."},
		{"first and last alike", area(0, 0, 3, 0, 3, 2, 0, 2, 0, 0), "###.\n###.\n...."},
		{"there and back, slanting", area(0, 0, 3, 3, 1, 1), "....\n....\n....\n...."},
		{"there and back, level", area(0, 1, 3, 1, 2, 1), "....\n....\n...."},
		{"there and back, upright", area(1, 0, 1, 3, 1, 2), "...\n...\n...\n..."},
		{"points on an edge", area(0, 0, 1, 0, 3, 0, 3, 1, 3, 2, 1, 2, 0, 2), "###.\n###.\n...."},
	} {
		if got := drawn(c.f, c.picture); got != c.picture {
			t.Errorf("P7: %s, %+v covers\n%s\nwant\n%s", c.name, c.f, got, c.picture)
		}
	}
}

// TestCoversEnds: P7, areas at 0 and at World.
func TestCoversEnds(t *testing.T) {
	for _, zoom := range []int{0, 11, 22} {
		for _, c := range []struct {
			x, y int
			in   bool
		}{
			{0, 0, true}, {world - 1, 0, true}, {0, world - 1, true}, {world - 1, world - 1, true},
			{world, 0, false}, {0, world, false}, {world, world, false}, {world, world - 1, false}, {world - 1, world, false},
		} {
			wantCovers(t, whole(), zoom, c.x, c.y, c.in)
		}
	}
	corner := upright(world-2, world-2, world, world)
	wantCovers(t, corner, 5, world-2, world-2, true)
	wantCovers(t, corner, 5, world-1, world-1, true)
	wantCovers(t, corner, 5, world-3, world-1, false)
	wantCovers(t, corner, 5, world-1, world-3, false)
	wantCovers(t, corner, 5, world, world-1, false)
	wantCovers(t, corner, 5, world-1, world, false)
	// The edge from one end of the world to the other, and what lies beside it.
	half := area(0, 0, world, world, 0, world)
	for _, y := range []int{1, 12345, world / 2, world - 1} {
		wantCovers(t, half, 22, y-1, y, true)
		wantCovers(t, half, 22, y, y, false)
		wantCovers(t, half, 22, y+1, y, false)
	}
	// It comes to the level y at y - 1 and a bit less than one, but for the ends.
	steep := area(0, 0, world-1, world, 0, world)
	for _, y := range []int{1, 12345, world / 2, world - 1} {
		wantCovers(t, steep, 22, y-1, y, true)
		wantCovers(t, steep, 22, y, y, false)
	}
}

// TestCoversWhatever: P7, the zoom does not matter to an area, nor From and layer to any feature.
func TestCoversWhatever(t *testing.T) {
	for zoom := 0; zoom <= 22; zoom++ {
		for layer := 0; layer < 4; layer++ {
			for from := 0; from <= 22; from++ {
				a, d := area(0, 0, 10, 0, 10, 10, 0, 10), dot(1, 100, 100)
				a.Layer, a.From = layer, from
				d.Layer, d.From = layer, from
				wantCovers(t, a, zoom, 9, 9, true)
				wantCovers(t, a, zoom, 10, 9, false)
				wantCovers(t, d, zoom, 100+unitOf(zoom), 100, true)
				wantCovers(t, d, zoom, 101+unitOf(zoom), 100, false)
			}
		}
	}
}

// TestCoversNothing: P7, no such zoom, no such point.
func TestCoversNothing(t *testing.T) {
	for _, zoom := range append([]int{23, 24, 26, 27, 28, 31, 32, 63, 64, 100}, extremes...) {
		wantCovers(t, whole(), zoom, 5, 5, false)
		wantCovers(t, dot(3, 5, 5), zoom, 5, 5, false)
	}
	low, high := dot(3, 0, 0), dot(3, world, world)
	for _, n := range extremes {
		for zoom := 0; zoom <= 22; zoom += 11 {
			for _, m := range []int{0, 1, world - 1, world, n} {
				for _, f := range []api.Feature{whole(), low, high} {
					wantCovers(t, f, zoom, n, m, false)
					wantCovers(t, f, zoom, m, n, false)
				}
			}
		}
	}
	wantCovers(t, low, 22, -1, 0, false)
	wantCovers(t, low, 22, 0, -1, false)
	wantCovers(t, high, 22, world+1, world, false)
	wantCovers(t, high, 22, world, world+1, false)
}

// TestCoversSmall: P7, all points in and around small areas and dots.
func TestCoversSmall(t *testing.T) {
	source := rand.New(rand.NewSource(7))
	for i := 0; i < 400; i++ {
		left := []int{0, 1000, world / 2, world - 8}[source.Intn(4)]
		top := []int{0, 3, world / 2, world - 8}[source.Intn(4)]
		f := someFeature(source, left, top, 8)
		for x := left - 1; x <= left+9; x++ {
			for y := top - 1; y <= top+9; y++ {
				wantCovers(t, f, 22, x, y, coversModel(f, 22, x, y))
			}
		}
	}
}

// TestCoversLarge: P7, points beside the edges of areas as large as the world, and at their corners.
func TestCoversLarge(t *testing.T) {
	source := rand.New(rand.NewSource(8))
	for i := 0; i < 3000; i++ {
		f := someFeature(source, 0, 0, world)
		n := source.Intn(f.N)
		y := []int{source.Intn(world + 1), f.Ys[n], f.Ys[n] - 1, f.Ys[n] + 1}[source.Intn(4)]
		x := f.Xs[n]
		at, crosses := crossing(f, n, (n+1)%f.N, y)
		if f.Kind == api.Area && crosses {
			x = int(new(big.Int).Div(at.Num(), at.Denom()).Int64())
		}
		for beside := -2; beside <= 2; beside++ {
			zoom := source.Intn(23)
			wantCovers(t, f, zoom, x+beside, y, coversModel(f, zoom, x+beside, y))
		}
	}
}
