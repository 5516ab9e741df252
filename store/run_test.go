package store_test

import (
	"math/rand"
	"testing"

	"atlas/api"
)

// TestRuns: P9 to P13, calls of all kinds in any order, compared with the model.
func TestRuns(t *testing.T) {
	seen := map[string]map[api.Errno]int{}
	most, last := 0, 0
	for seed := int64(0); seed < 60; seed++ {
		source := rand.New(rand.NewSource(seed))
		p := newPair(t, int(seed)%5)
		for i := 0; i < 100+10*int(seed); i++ {
			p.step(t, source)
			if i%100 == 99 {
				p.whole(t, source)
			}
			most = max(most, len(p.m.sets[p.m.version()]))
		}
		last = max(last, p.m.version())
		for call, answers := range p.seen {
			for e, n := range answers {
				if seen[call] == nil {
					seen[call] = map[api.Errno]int{}
				}
				seen[call][e] += n
			}
		}
	}
	if most != 40 || last != 100 {
		t.Errorf("the runs came to %d features and to version %d", most, last)
	}
	for call, errors := range map[string][]api.Errno{
		"Apply": {api.OK, api.ErrBatch, api.ErrFull, api.ErrEdit, api.ErrShape, api.ErrNone},
		"Pin":   {api.OK, api.ErrVersion, api.ErrPins},
		"Unpin": {api.OK, api.ErrVersion},
		"Read":  {api.OK, api.ErrVersion, api.ErrArg},
		"Stamp": {api.OK, api.ErrLayer, api.ErrZoom, api.ErrPlace, api.ErrVersion},
	} {
		for _, e := range errors {
			if seen[call][e] < 10 {
				t.Errorf("the runs have %s with the answer %d only %d times", call, e, seen[call][e])
			}
		}
	}
}

// TestTwoStores: P2, stores beside each other: each goes on as its own model does.
func TestTwoStores(t *testing.T) {
	source := rand.New(rand.NewSource(77))
	pairs := []*pair{newPair(t, 2), newPair(t, 2), newPair(t, 0), newPair(t, 4)}
	for i := 0; i < 2000; i++ {
		pairs[source.Intn(len(pairs))].step(t, source)
		if i%100 == 99 {
			for _, p := range pairs {
				p.whole(t, source)
			}
		}
	}
	// The same batch into both, and another into one of them.
	a, b := fresh(t, 1), fresh(t, 1)
	batch := []api.Edit{put(inside(1, 1, 0)), put(inside(2, 2, 0))}
	apply(t, a, batch...)
	apply(t, b, batch...)
	apply(t, a, drop(1), put(inside(2, 3, 0)))
	wantPin(t, a, 1, api.OK)
	if b.Version() != 1 {
		t.Errorf("P2: Version() = %d, of a store with one batch", b.Version())
	}
	wantHeld(t, b, 0, 1)
	wantFeatures(t, b, 1, inside(1, 1, 0), inside(2, 2, 0))
	wantStamp(t, b, 1, tile(3, 0), 0)
	wantUnpin(t, b, 1, api.ErrVersion)
	wantFeatures(t, a, 2, inside(2, 3, 0))
	wantStamp(t, a, 2, tile(3, 0), 2)
}
