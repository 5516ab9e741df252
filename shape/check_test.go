package shape_test

import (
	"testing"

	"atlas/api"
	"atlas/shape"
)

// wantCheck looks at what Check says, and at the others, if the feature is not right.
func wantCheck(t *testing.T, f api.Feature, right bool) {
	t.Helper()
	want := api.ErrShape
	if right {
		want = api.OK
	}
	if e := shape.Check(f); e != want {
		t.Errorf("P7: Check(%+v) = %d, want %d", f, e, want)
	}
	if right {
		return
	}
	for zoom := 0; zoom <= 22; zoom += 11 {
		for _, p := range []int{0, 5, world / 2, world} {
			if shape.Covers(f, zoom, p, p) {
				t.Errorf("P7: %+v is not right and covers (%d, %d)", f, p, p)
			}
		}
		for layer := 0; layer < 4; layer++ {
			if shape.Touches(f, api.Key{Layer: layer, Z: zoom}) {
				t.Errorf("P7: %+v is not right and touches", f)
			}
		}
	}
	if s, e := shape.Paint([]api.Feature{whole(), f}, api.Key{}); s != "" || e != api.ErrShape {
		t.Errorf("P8: Paint with %+v = %x, %d", f, s, e)
	}
}

// TestCheckRanges: P7, each field of a feature, at all of its range, and beyond both ends.
func TestCheckRanges(t *testing.T) {
	for _, d := range fields {
		for _, base := range []api.Feature{area(0, 0, 0, 0, 0, 0), dot(2, 0, 0)} {
			least, most := d.areaFrom, d.areaUpTo
			if base.Kind == api.Dot {
				least, most = d.dotFrom, d.dotUpTo
			}
			for n := least; n <= most; n++ {
				f := base
				*d.of(&f) = n
				wantCheck(t, f, true)
			}
			for _, n := range append([]int{least - 1, most + 1}, extremes...) {
				f := base
				*d.of(&f) = n
				wantCheck(t, f, false)
			}
		}
	}
}

// TestCheckForms: P7, which Kind goes with which Size and which N.
func TestCheckForms(t *testing.T) {
	for kind := -2; kind <= 4; kind++ {
		for size := -2; size <= 5; size++ {
			for n := -2; n <= 11; n++ {
				f := api.Feature{Id: 7, Kind: kind, Ink: 1, Size: size, N: n}
				isArea := kind == 0 && size == 0 && n >= 3 && n <= 8
				isDot := kind == 1 && size >= 1 && size <= 3 && n == 1
				wantCheck(t, f, isArea || isDot)
			}
		}
	}
}

// TestCheckPoints: P7, each point, and what stands in Xs and Ys from N on.
func TestCheckPoints(t *testing.T) {
	bases := []api.Feature{dot(1, 9, 9)}
	for n := 3; n <= 8; n++ {
		bases = append(bases, api.Feature{Id: 1, Ink: 1, N: n})
	}
	for _, base := range bases {
		for i := 0; i < 8; i++ {
			for _, n := range append([]int{0, 1, world - 1, world}, extremes...) {
				inside := n >= 0 && n <= world && i < base.N || n == 0
				f := base
				f.Xs[i] = n
				wantCheck(t, f, inside)
				f = base
				f.Ys[i] = n
				wantCheck(t, f, inside)
			}
		}
	}
}

// TestCheckSeveral: P7, a feature with several faults is not right, and what stands at the far ends of all ranges is.
func TestCheckSeveral(t *testing.T) {
	wantCheck(t, api.Feature{}, false)
	wantCheck(t, api.Feature{Id: 1, N: 1, Kind: 1, Size: 1}, false)
	high := api.Feature{Id: 1000, Layer: 3, Ink: 15, Rank: 9, From: 22, N: 8}
	for i := range high.Xs {
		high.Xs[i], high.Ys[i] = world, world
	}
	wantCheck(t, high, true)
	high.Kind, high.Size = api.Dot, 3
	wantCheck(t, high, false)
	high.N = 1
	wantCheck(t, high, false)
	high.Xs, high.Ys = [8]int{world}, [8]int{world}
	wantCheck(t, high, true)
	for _, n := range extremes {
		f := api.Feature{Id: n, Layer: n, Kind: n, Ink: n, Rank: n, From: n, Size: n, N: n}
		for i := range f.Xs {
			f.Xs[i], f.Ys[i] = n, n
		}
		wantCheck(t, f, false)
	}
}
