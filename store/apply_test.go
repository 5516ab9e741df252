package store_test

import (
	"math"
	"testing"

	"atlas/api"
	"atlas/store"
)

// stocked has the features 1 to 5 at version 1, and another 3 at version 2.
func stocked(t *testing.T) *store.Store {
	t.Helper()
	s := fresh(t, 2)
	fill(t, s, 1, 5)
	apply(t, s, put(inside(3, 7, 0)))
	return s
}

// TestApplyLength: P10, from no edit to far too many; what the edits are does not matter then.
func TestApplyLength(t *testing.T) {
	for n := 0; n <= 20; n++ {
		s := stocked(t)
		right, wrong := []api.Edit{}, []api.Edit{}
		for i := 0; i < n; i++ {
			right = append(right, put(inside(100+i, 0, 0)))
			wrong = append(wrong, api.Edit{Op: 7})
		}
		if n >= 1 && n <= 8 {
			refuse(t, s, api.ErrEdit, wrong...)
			apply(t, s, right...)
			if fs := all(t, s, 3, 8); len(fs) != 5+n {
				t.Errorf("P10: %d features, behind a batch of %d", len(fs), n)
			}
			continue
		}
		refuse(t, s, api.ErrBatch, wrong...)
		refuse(t, s, api.ErrBatch, right...)
	}
	s := stocked(t)
	refuse(t, s, api.ErrBatch)
	refuse(t, s, api.ErrBatch, []api.Edit{}...)
	refuse(t, s, api.ErrBatch, make([]api.Edit, 0, 8)...)
	refuse(t, s, api.ErrBatch, make([]api.Edit, 5000)...)
}

// TestApplyLastVersion: P10, versions go up by one, to 100; then ErrFull comes ahead of what is wrong with an edit, and behind ErrBatch.
func TestApplyLastVersion(t *testing.T) {
	s := fresh(t, 4)
	for v := 1; v <= 100; v++ {
		if n, e := s.Apply([]api.Edit{put(inside(1+v%3, v, 0))}); n != v || e != api.OK || s.Version() != v {
			t.Fatalf("P10: Apply = %d, %d, Version() = %d, want %d", n, e, s.Version(), v)
		}
		if v == 99 {
			refuse(t, s, api.ErrNone, drop(9))
		}
	}
	refuse(t, s, api.ErrFull, put(inside(1, 0, 0)))
	refuse(t, s, api.ErrFull, drop(1))
	refuse(t, s, api.ErrFull, drop(9))
	refuse(t, s, api.ErrFull, api.Edit{Op: 2})
	refuse(t, s, api.ErrFull, put(api.Feature{}))
	refuse(t, s, api.ErrFull, make([]api.Edit, 8)...)
	refuse(t, s, api.ErrBatch)
	refuse(t, s, api.ErrBatch, make([]api.Edit, 9)...)
	wantHeld(t, s, 96, 97, 98, 99, 100)
}

// TestApplyOneByOne: P10, each edit upon what those ahead of it made.
func TestApplyOneByOne(t *testing.T) {
	a, b, c := inside(6, 1, 1), inside(6, 2, 2), inside(6, 3, 3)
	for _, d := range []struct {
		name  string
		batch []api.Edit
		want  []api.Feature // with the Id 6, if there is one
	}{
		{"a Put", []api.Edit{put(a)}, []api.Feature{a}},
		{"a Put and a Drop", []api.Edit{put(a), drop(6)}, nil},
		{"a Put twice", []api.Edit{put(a), put(b)}, []api.Feature{b}},
		{"a Put thrice", []api.Edit{put(a), put(b), put(c)}, []api.Feature{c}},
		{"the same Put twice", []api.Edit{put(a), put(a)}, []api.Feature{a}},
		{"a Put, a Drop, a Put", []api.Edit{put(a), drop(6), put(b)}, []api.Feature{b}},
		{"in and out again and again", []api.Edit{put(a), drop(6), put(b), drop(6), put(c), drop(6), put(a), drop(6)}, nil},
		{"in and out, and in at the end", []api.Edit{put(a), drop(6), put(b), drop(6), put(c), drop(6), put(b), put(a)}, []api.Feature{a}},
	} {
		s := stocked(t)
		apply(t, s, d.batch...)
		rest := []api.Feature{inside(1, 1, 0), inside(2, 2, 0), inside(3, 7, 0), inside(4, 4, 0), inside(5, 5, 0)}
		wantFeatures(t, s, 3, append(rest, d.want...)...)
		if t.Failed() {
			t.Fatalf("%s", d.name)
		}
		// As edits of versions of their own they come to the same.
		one := stocked(t)
		for _, edit := range d.batch {
			apply(t, one, edit)
		}
		wantFeatures(t, one, one.Version(), append(rest, d.want...)...)
	}
}

// TestApplyUponWhatIs: P10, edits of features that earlier versions brought.
func TestApplyUponWhatIs(t *testing.T) {
	s := stocked(t)
	apply(t, s, drop(3), put(inside(3, 8, 8)))
	wantFeatures(t, s, 3, inside(1, 1, 0), inside(2, 2, 0), inside(3, 8, 8), inside(4, 4, 0), inside(5, 5, 0))
	apply(t, s, put(inside(3, 6, 6)), drop(3))
	wantFeatures(t, s, 4, inside(1, 1, 0), inside(2, 2, 0), inside(4, 4, 0), inside(5, 5, 0))
	apply(t, s, drop(1), drop(2), drop(5), drop(4))
	wantFeatures(t, s, 5)
	refuse(t, s, api.ErrNone, drop(1))
	apply(t, s, put(inside(4, 1, 1)))
	wantFeatures(t, s, 6, inside(4, 1, 1))
	// Put takes the place of the whole feature.
	d := api.Feature{Id: 4, Layer: 3, Kind: api.Dot, Ink: 9, Rank: 9, From: 22, Size: 3, N: 1}
	d.Xs[0], d.Ys[0] = 1<<30, 1<<30
	apply(t, s, put(d))
	wantFeatures(t, s, 7, d)
	wantFeatures(t, s, 6, inside(4, 1, 1))
}

// TestApplyNone: P10, a Drop of what is not there, or no longer.
func TestApplyNone(t *testing.T) {
	s := stocked(t)
	for _, id := range append([]int{0, 6, 999, 1000, 1001}, extremes...) {
		refuse(t, s, api.ErrNone, drop(id))
		refuse(t, s, api.ErrNone, put(inside(7, 0, 0)), drop(id))
	}
	refuse(t, s, api.ErrNone, drop(3), drop(3))
	refuse(t, s, api.ErrNone, put(inside(6, 0, 0)), drop(6), drop(6))
	refuse(t, s, api.ErrNone, drop(6), put(inside(6, 0, 0)))
	refuse(t, fresh(t, 0), api.ErrNone, drop(1))
	refuse(t, fresh(t, 0), api.ErrNone, drop(0))
	apply(t, s, drop(3))
	refuse(t, s, api.ErrNone, drop(3))
}

// TestApplyDropLooksAtId: P10, of a Drop the Id alone is looked at.
func TestApplyDropLooksAtId(t *testing.T) {
	for _, n := range append([]int{0, 1, 2, 77}, extremes...) {
		s := stocked(t)
		f := api.Feature{Id: 3, Layer: n, Kind: n, Ink: n, Rank: n, From: n, Size: n, N: n}
		for i := range f.Xs {
			f.Xs[i], f.Ys[i] = n, n
		}
		apply(t, s, api.Edit{Op: api.Drop, F: f})
		wantFeatures(t, s, 3, inside(1, 1, 0), inside(2, 2, 0), inside(4, 4, 0), inside(5, 5, 0))
		// What goes is what was there, not what the edit has.
		wantStamp(t, s, 3, tile(7, 0), 3)
	}
	s := stocked(t)
	apply(t, s, api.Edit{Op: api.Drop, F: inside(3, 30, 30)})
	wantStamp(t, s, 3, tile(7, 0), 3)
	wantStamp(t, s, 3, tile(30, 30), 0)
}

// TestApplyOps: P10, an Op that is none, whatever its feature is.
func TestApplyOps(t *testing.T) {
	s := stocked(t)
	for _, op := range append([]int{2, 3, -2, 256, 1 << 20}, extremes...) {
		for _, f := range []api.Feature{inside(3, 0, 0), inside(6, 0, 0), {}, {Id: math.MaxInt}} {
			refuse(t, s, api.ErrEdit, api.Edit{Op: op, F: f})
		}
	}
}

// faulty are features that are not right, each with one field out of its range.
func faulty() []api.Feature {
	var fs []api.Feature
	for _, n := range append([]int{1001, 1<<30 + 2}, extremes...) {
		for i := 0; i < 24; i++ {
			f := inside(3, 0, 0)
			fields := []*int{&f.Id, &f.Layer, &f.Kind, &f.Ink, &f.Rank, &f.From, &f.Size, &f.N}
			for j := range f.Xs {
				fields = append(fields, &f.Xs[j], &f.Ys[j])
			}
			if i > 7 && n == 1001 {
				continue
			}
			*fields[i] = n
			fs = append(fs, f)
		}
	}
	for _, change := range []func(f *api.Feature){
		func(f *api.Feature) { f.Id = 0 },
		func(f *api.Feature) { f.Layer = 4 },
		func(f *api.Feature) { f.Kind = 2 },
		func(f *api.Feature) { f.Kind = 1 },
		func(f *api.Feature) { f.Ink = 0 },
		func(f *api.Feature) { f.Ink = 16 },
		func(f *api.Feature) { f.Rank = 10 },
		func(f *api.Feature) { f.From = 23 },
		func(f *api.Feature) { f.Size = 1 },
		func(f *api.Feature) { f.N = 2 },
		func(f *api.Feature) { f.N = 9 },
		func(f *api.Feature) { f.Xs[3] = 1 },
		func(f *api.Feature) { f.Ys[7] = 1 },
	} {
		f := inside(3, 0, 0)
		change(&f)
		fs = append(fs, f)
	}
	return fs
}

// TestApplyShape: P10, a Put of a feature that is not right.
func TestApplyShape(t *testing.T) {
	s := stocked(t)
	for _, f := range faulty() {
		refuse(t, s, api.ErrShape, put(f))
	}
	refuse(t, s, api.ErrShape, put(api.Feature{}))
}

// TestApplyFirstError: P10, the first edit that has an error gives the batch's, whatever stands behind it.
func TestApplyFirstError(t *testing.T) {
	full := fresh(t, 2)
	fill(t, full, 1, 40)
	wrong := []struct {
		edit api.Edit
		want api.Errno
	}{
		{api.Edit{Op: 2}, api.ErrEdit},
		{put(api.Feature{}), api.ErrShape},
		{drop(50), api.ErrNone},
		{put(inside(60, 0, 0)), api.ErrFull},
	}
	right := put(inside(3, 1, 1))
	for _, a := range wrong {
		for _, b := range wrong {
			refuse(t, full, a.want, a.edit, b.edit)
			refuse(t, full, a.want, right, a.edit, right, b.edit)
			refuse(t, full, a.want, right, right, drop(3), put(inside(3, 2, 2)), right, a.edit, b.edit, right)
		}
	}
}

// TestApplyLastWrong: P10, nothing is changed if the last edit has an error, however many are ahead of it.
func TestApplyLastWrong(t *testing.T) {
	s := stocked(t)
	wantPin(t, s, 0, api.OK)
	ahead := []api.Edit{put(inside(6, 1, 0)), drop(1), put(inside(2, 3, 0)), drop(6), put(inside(1, 2, 0)), drop(5), put(inside(3, 1, 0))}
	for n := 0; n <= len(ahead); n++ {
		batch := append([]api.Edit{}, ahead[:n]...)
		refuse(t, s, api.ErrEdit, append(batch, api.Edit{Op: -1})...)
		refuse(t, s, api.ErrShape, append(batch, put(api.Feature{Id: 1}))...)
		refuse(t, s, api.ErrNone, append(batch, drop(7))...)
	}
	if s.Version() != 2 {
		t.Errorf("P10: Version() = %d behind refused batches", s.Version())
	}
	wantHeld(t, s, 0, 1, 2)
	wantFeatures(t, s, 2, inside(1, 1, 0), inside(2, 2, 0), inside(3, 7, 0), inside(4, 4, 0), inside(5, 5, 0))
	wantStamps(t, s, tile(1, 0), 0, 1, 1)
	wantStamps(t, s, tile(3, 0), 0, 1, 2)
	// The pins stay too: five more fit, and the one that is there goes once.
	for i := 0; i < 5; i++ {
		wantPin(t, s, 2, api.OK)
	}
	wantPin(t, s, 2, api.ErrPins)
	wantUnpin(t, s, 0, api.OK)
	wantUnpin(t, s, 0, api.ErrVersion)
	// And the next batch finds what was there.
	apply(t, s, ahead...)
	wantFeatures(t, s, 3, inside(1, 2, 0), inside(2, 3, 0), inside(3, 1, 0), inside(4, 4, 0))
}

// TestApplyForty: P10, the fortieth feature and one more.
func TestApplyForty(t *testing.T) {
	s := fresh(t, 2)
	fill(t, s, 1, 39)
	refuse(t, s, api.ErrFull, put(inside(40, 0, 0)), put(inside(41, 0, 0)))
	apply(t, s, put(inside(39, 9, 9)), put(inside(40, 40, 0)))
	if fs := all(t, s, s.Version(), 8); len(fs) != 40 {
		t.Fatalf("P10: %d features, want 40", len(fs))
	}
	refuse(t, s, api.ErrFull, put(inside(41, 0, 0)))
	refuse(t, s, api.ErrFull, put(inside(1000, 0, 0)))
	refuse(t, s, api.ErrFull, put(inside(41, 0, 0)), drop(1))
	refuse(t, s, api.ErrFull, drop(1), put(inside(41, 0, 0)), put(inside(42, 0, 0)))
	refuse(t, s, api.ErrFull, drop(1), put(inside(41, 0, 0)), put(inside(1, 0, 0)))
	faint := inside(41, 0, 0)
	faint.Ink = 0
	refuse(t, s, api.ErrShape, put(faint))
	// With the Ids that are there all goes on.
	for id := 1; id <= 40; id++ {
		apply(t, s, put(inside(id, 60, 60)), put(inside(id, 61, 61)))
	}
	apply(t, s, drop(17), put(inside(41, 0, 0)))
	refuse(t, s, api.ErrFull, put(inside(17, 0, 0)))
	apply(t, s, drop(41))
	apply(t, s, put(inside(1000, 0, 0)))
	refuse(t, s, api.ErrFull, put(inside(17, 0, 0)))
	fs := all(t, s, s.Version(), 8)
	if len(fs) != 40 || fs[15].Id != 16 || fs[16].Id != 18 || fs[39] != inside(1000, 0, 0) {
		t.Errorf("P10: %d features: %+v", len(fs), fs)
	}
}
