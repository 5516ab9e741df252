package store_test

import (
	"math"
	"reflect"
	"testing"

	"atlas/api"
	"atlas/store"
)

// TestAnyNumbers: P1, numbers of any size in all arguments end, and leave nothing behind.
func TestAnyNumbers(t *testing.T) {
	numbers := []int{math.MinInt, math.MinInt + 1, math.MinInt / 2, math.MinInt32, -101, -1, 0, 1, 2, 3, 8, 9, 40, 100, 101, 1000, 1<<30 + 1, math.MaxInt32, math.MaxInt / 2, math.MaxInt - 1, math.MaxInt}
	for _, s := range []*store.Store{fresh(t, 0), fresh(t, 4), stocked(t)} {
		before := told(s)
		for _, a := range numbers {
			for _, b := range numbers {
				for _, c := range numbers {
					fs, e := s.Read(a, b, c)
					if len(fs) > 8 || e != api.OK && fs != nil {
						t.Errorf("P1: Read(%d, %d, %d) = %+v, %d", a, b, c, fs, e)
					}
				}
				for _, k := range []api.Key{{}, {Layer: b}, {Z: b}, {X: b}, {Y: b}, {Z: 22, X: b, Y: b}, {Layer: b, Z: b, X: b, Y: b}} {
					n, e := s.Stamp(a, k)
					if n < 0 || n > s.Version() || e != api.OK && n != 0 {
						t.Errorf("P1: Stamp(%d, %+v) = %d, %d", a, k, n, e)
					}
				}
			}
			if s.Pin(a) == api.OK {
				wantUnpin(t, s, a, api.OK)
			}
			wantUnpin(t, s, a, api.ErrVersion)
		}
		if after := told(s); !reflect.DeepEqual(before, after) {
			t.Errorf("P1: calls that change nothing made of\n%+v\nthis:\n%+v", before, after)
		}
	}
}

// TestAnyEdits: P1, numbers of any size in each field of an edit, in batches of any length.
func TestAnyEdits(t *testing.T) {
	for _, length := range []int{1, 2, 7, 8, 9, 100} {
		for _, op := range append([]int{0, 1, 2}, extremes...) {
			for _, f := range append(faulty(), api.Feature{}, inside(1, 1, 0), inside(900, 1, 0)) {
				s := stocked(t)
				batch := make([]api.Edit, length)
				for i := range batch {
					batch[i] = put(inside(5, 5, 0))
				}
				batch[length-1] = api.Edit{Op: op, F: f}
				n, e := s.Apply(batch)
				if e == api.OK && n != 3 || e != api.OK && n != 0 || e == api.OK && length > 8 {
					t.Errorf("P1: Apply of %d edits, at last %+v: %d, %d", length, batch[length-1], n, e)
				}
			}
		}
	}
}

// TestErrorsLeaveZero: P1, with an error every other result is the zero value.
func TestErrorsLeaveZero(t *testing.T) {
	if s, e := store.New(5); s != nil || e != api.ErrConfig {
		t.Errorf("P1: New(5) = %v, %d", s, e)
	}
	s := stocked(t)
	for _, batch := range [][]api.Edit{nil, make([]api.Edit, 9), {drop(9)}, {drop(1), {Op: 2}}, {put(inside(1, 1, 1)), put(api.Feature{})}} {
		if n, e := s.Apply(batch); n != 0 || e == api.OK {
			t.Errorf("P1: Apply(%+v) = %d, %d", batch, n, e)
		}
	}
	for _, c := range [][3]int{{3, 0, 8}, {-1, 0, 8}, {2, 0, 0}, {2, 0, 9}, {3, 0, 9}} {
		if fs, e := s.Read(c[0], c[1], c[2]); fs != nil || e == api.OK {
			t.Errorf("P1: Read(%v) = %+v, %d", c, fs, e)
		}
	}
	if n, e := s.Stamp(3, api.Key{}); n != 0 || e != api.ErrVersion {
		t.Errorf("P1: Stamp(3) = %d, %d", n, e)
	}
	if n, e := s.Stamp(2, api.Key{X: 1}); n != 0 || e != api.ErrPlace {
		t.Errorf("P1: Stamp of no key = %d, %d", n, e)
	}
}

// TestBatchStays: P2, neither a batch nor the spare room behind it is written into, whether it is refused or not.
func TestBatchStays(t *testing.T) {
	for _, last := range []api.Edit{put(inside(9, 9, 0)), drop(4), drop(77), {Op: 3}, put(api.Feature{})} {
		for length := 1; length <= 9; length++ {
			s := stocked(t)
			room := make([]api.Edit, 20)
			for i := range room {
				room[i] = put(inside(3, i, 5))
			}
			room[length-1] = last
			if length > 2 {
				room[0] = drop(3)
			}
			before := append([]api.Edit{}, room...)
			s.Apply(room[:length])
			s.Apply(room[:length])
			if !reflect.DeepEqual(room, before) {
				t.Errorf("P2: Apply of %d edits made of\n%+v\nthis:\n%+v", length, before, room)
			}
		}
	}
}

// TestBatchIsNotKept: P2, what the caller writes into a batch later changes nothing.
func TestBatchIsNotKept(t *testing.T) {
	s := stocked(t)
	room := make([]api.Edit, 20)
	batch := append(room[:0], put(inside(3, 1, 0)), put(inside(6, 2, 0)), put(inside(6, 3, 0)), drop(5))
	apply(t, s, batch...)
	apply(t, s, batch[:2]...)
	before := told(s)
	room = room[:cap(room)]
	for i := range room {
		room[i] = put(inside(2, 40+i, 0))
		room[i].F.Ink = 15
	}
	if after := told(s); !reflect.DeepEqual(before, after) {
		t.Errorf("P2: the batch was kept:\n%+v\n%+v", before, after)
	}
	apply(t, s, drop(6))
	wantFeatures(t, s, 5, inside(1, 1, 0), inside(2, 2, 0), inside(3, 1, 0), inside(4, 4, 0))
}

// TestListsAreTheCallers: P2, what is written into a list that came out, or into its spare room, changes nothing that comes out later.
func TestListsAreTheCallers(t *testing.T) {
	s := stocked(t)
	wantPin(t, s, 0, api.OK)
	wantPin(t, s, 2, api.OK)
	before := told(s)
	for round := 0; round < 3; round++ {
		for v := 0; v <= 2; v++ {
			for n := 1; n <= 8; n++ {
				fs, _ := s.Read(v, 0, n)
				fs = fs[:cap(fs)]
				for i := range fs {
					fs[i] = inside(70+i, 70, 70)
				}
			}
			held := s.Held()
			held = held[:cap(held)]
			for i := range held {
				held[i] = 9
			}
		}
		if after := told(s); !reflect.DeepEqual(before, after) {
			t.Fatalf("P2: what was written into lists that came out made of\n%+v\nthis:\n%+v", before, after)
		}
	}
	apply(t, s, put(inside(6, 6, 0)))
	wantHeld(t, s, 0, 1, 2, 3)
	wantFeatures(t, s, 3, inside(1, 1, 0), inside(2, 2, 0), inside(3, 7, 0), inside(4, 4, 0), inside(5, 5, 0), inside(6, 6, 0))
}

// TestListsStay: P2, no later call changes a list that came out, nor its spare room.
func TestListsStay(t *testing.T) {
	s := fresh(t, 3)
	var chunks, chunksThen [][]api.Feature
	var helds, heldsThen [][]int
	for v := 0; v < 30; v++ {
		for old := 0; old <= v; old++ {
			fs, e := s.Read(old, 0, 1+v%8)
			if e != api.OK {
				continue
			}
			for i := len(fs); i < cap(fs); i++ {
				fs[:cap(fs)][i] = inside(99, v, i)
			}
			chunks = append(chunks, fs[:cap(fs)])
			chunksThen = append(chunksThen, append([]api.Feature{}, fs[:cap(fs)]...))
		}
		held := s.Held()
		for i := len(held); i < cap(held); i++ {
			held[:cap(held)][i] = -v
		}
		helds = append(helds, held[:cap(held)])
		heldsThen = append(heldsThen, append([]int{}, held[:cap(held)]...))
		if v%5 == 0 {
			wantPin(t, s, v, api.OK)
		}
		if v%7 == 6 {
			wantUnpin(t, s, v/7*5, api.OK)
		}
		apply(t, s, put(inside(1+v%11, v, 0)), put(inside(20, 0, v)), drop(20))
	}
	if !reflect.DeepEqual(helds, heldsThen) {
		t.Errorf("P2: lists of Held were changed: %v, at first %v", helds, heldsThen)
	}
	for i := range chunks {
		if len(chunks[i]) > 0 && !reflect.DeepEqual(chunks[i], chunksThen[i]) {
			t.Errorf("P2: a list of Read was changed: %+v, at first %+v", chunks[i], chunksThen[i])
		}
	}
}
