package store_test

import (
	"math"
	"math/rand"
	"reflect"
	"testing"

	"atlas/api"
)

// TestReadEdges: P12, after of any size, n at both ends of its range and one beyond.
func TestReadEdges(t *testing.T) {
	s := fresh(t, 1)
	ids := []int{1, 2, 3, 5, 8, 13, 21, 34, 55, 89, 999, 1000}
	var batch []api.Edit
	for i := range ids {
		batch = append(batch, put(inside(ids[(5*i+3)%len(ids)], i, 0)))
	}
	apply(t, s, batch[:8]...)
	apply(t, s, batch[8:]...)
	for _, after := range []int{math.MinInt, math.MinInt + 1, -1, 0, 1, 2, 3, 4, 5, 6, 54, 55, 89, 90, 998, 999, 1000, 1001, math.MaxInt32, math.MaxInt - 1, math.MaxInt} {
		var above []int
		for _, id := range ids {
			if id > after {
				above = append(above, id)
			}
		}
		for n := 1; n <= 8; n++ {
			fs, e := s.Read(2, after, n)
			var got []int
			for _, f := range fs {
				got = append(got, f.Id)
			}
			if want := above[:min(n, len(above))]; e != api.OK || len(got) != len(want) || len(got) > 0 && !reflect.DeepEqual(got, want) {
				t.Errorf("P12: Read(2, %d, %d) has the Ids %v, %d, want %v", after, n, got, e, want)
			}
		}
		for _, n := range append([]int{0, 9, 10, 40}, extremes...) {
			if fs, e := s.Read(2, after, n); fs != nil || e != api.ErrArg {
				t.Errorf("P12: Read(2, %d, %d) = %+v, %d", after, n, fs, e)
			}
			// ErrVersion comes first.
			for _, v := range append([]int{0, 3, 101}, extremes...) {
				if fs, e := s.Read(v, after, n); fs != nil || e != api.ErrVersion {
					t.Errorf("P12: Read(%d, %d, %d) = %+v, %d", v, after, n, fs, e)
				}
			}
		}
	}
}

// TestReadByRisingId: P12, whatever the order of the Puts, in one batch or in many.
func TestReadByRisingId(t *testing.T) {
	source := rand.New(rand.NewSource(3))
	for round := 0; round < 50; round++ {
		ids := source.Perm(1000)[:40]
		s := fresh(t, 0)
		for at := 0; at < 40; {
			var batch []api.Edit
			for n := 1 + source.Intn(8); n > 0 && at < 40; n-- {
				batch = append(batch, put(inside(1+ids[at], at, 0)))
				at++
			}
			apply(t, s, batch...)
		}
		for n := 1; n <= 8; n++ {
			fs := all(t, s, s.Version(), n)
			if len(fs) != 40 {
				t.Fatalf("P12: %d features by chunks of %d", len(fs), n)
			}
			for i := range fs {
				if i > 0 && fs[i].Id <= fs[i-1].Id {
					t.Errorf("P12: %d stands behind %d", fs[i].Id, fs[i-1].Id)
				}
			}
			for at, id := range ids {
				if one, e := s.Read(s.Version(), id, 1); e != api.OK || len(one) != 1 || one[0] != inside(1+id, at, 0) {
					t.Errorf("P12: Read of %d = %+v, %d", 1+id, one, e)
				}
			}
		}
	}
}

// TestReadStays: P12, each version that is held reads as it did when it was new, whatever batches came behind it.
func TestReadStays(t *testing.T) {
	s := fresh(t, 4)
	source := rand.New(rand.NewSource(4))
	m := newModel(4)
	pinned := map[int]bool{0: true, 1: true, 7: true, 20: true, 55: true, 80: true}
	when := [][]api.Feature{nil}
	wantPin(t, s, 0, api.OK)
	for s.Version() < 100 {
		batch := someBatch(source, m)
		if _, e := m.apply(batch); e != api.OK {
			continue
		}
		apply(t, s, batch...)
		v := s.Version()
		when = append(when, all(t, s, v, 8))
		if pinned[v] {
			wantPin(t, s, v, api.OK)
		}
		for old := 0; old <= v; old++ {
			if old >= v-4 || pinned[old] {
				wantFeatures(t, s, old, when[old]...)
			}
		}
	}
}

// TestReadSmallSteps: P12, an older version behind a Put in the place of a feature, a Drop, and a Put of the Id anew.
func TestReadSmallSteps(t *testing.T) {
	s := fresh(t, 4)
	apply(t, s, put(inside(1, 1, 0)), put(inside(2, 2, 0)))
	apply(t, s, put(inside(1, 3, 0)))
	apply(t, s, drop(1))
	apply(t, s, put(inside(1, 4, 0)), put(inside(5, 5, 0)), drop(5))
	for round := 0; round < 2; round++ {
		wantFeatures(t, s, 0)
		wantFeatures(t, s, 1, inside(1, 1, 0), inside(2, 2, 0))
		wantFeatures(t, s, 2, inside(1, 3, 0), inside(2, 2, 0))
		wantFeatures(t, s, 3, inside(2, 2, 0))
		wantFeatures(t, s, 4, inside(1, 4, 0), inside(2, 2, 0))
	}
}
