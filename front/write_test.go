package front_test

import (
	"reflect"
	"testing"

	"atlas/api"
	"atlas/front"
)

// refuses wants an error of a batch, and that it changes nothing: what a front tells, its cache and its features.
func refuses(t *testing.T, f *front.Front, want api.Errno, batch ...api.Edit) {
	t.Helper()
	before, flights := f.Look(), f.Flights()
	if n, e := f.Write(batch); n != 0 || e != want {
		t.Fatalf("P17: Write(%+v) = %d, %d, want 0, %d", batch, n, e, want)
	}
	looks(t, f, before)
	flies(t, f, flights...)
}

// TestWriteErrors: P17, each error of Apply, which changes nothing.
func TestWriteErrors(t *testing.T) {
	f := withCache(t, 2000)
	writes(t, f, 1, put(strip(1)))
	painted(t, f, k00)
	arrives(t, f, k20, "", 1)
	works(t, f, 0)
	arrives(t, f, root, "", 2)
	wrong := strip(2)
	wrong.Ink = 0
	again := put(inside(1, k11)) // takes the place of the strip
	refuses(t, f, api.ErrBatch)
	refuses(t, f, api.ErrBatch, again, again, again, again, again, again, again, again, again)
	for _, ahead := range [][]api.Edit{nil, {again}, {drop(1)}, {put(inside(5, k10)), put(inside(6, k01)), put(inside(7, k11)), drop(1), drop(5), drop(6), drop(7)}} {
		refuses(t, f, api.ErrEdit, append(ahead, api.Edit{Op: 2, F: strip(1)})...)
		refuses(t, f, api.ErrEdit, append(ahead, api.Edit{Op: -1, F: strip(1)})...)
		refuses(t, f, api.ErrShape, append(ahead, put(wrong))...)
		refuses(t, f, api.ErrNone, append(ahead, drop(2))...)
		refuses(t, f, api.ErrNone, append(ahead, drop(-1))...)
	}
	// The first edit with an error gives it.
	refuses(t, f, api.ErrNone, again, drop(9), put(wrong), api.Edit{Op: 7})
	refuses(t, f, api.ErrShape, again, put(wrong), drop(9), api.Edit{Op: 7})
	// All is as it was.
	for i, k := range block4() {
		if k == k00 {
			arrives(t, f, k, "", 3+i, fine(3+i, k, sevens, 1))
		} else {
			arrives(t, f, k, "", 3+i, fine(3+i, k, noughts, 0))
		}
	}
	works(t, f, 0, fine(1, k20, noughts, 0))
	writes(t, f, 2, again)
	arrives(t, f, k00, "", 7)
}

// TestWriteFull: P17, more features than may be, and more versions.
func TestWriteFull(t *testing.T) {
	f := stocked(t, wide, 40)
	refuses(t, f, api.ErrFull, put(strip(41)))
	refuses(t, f, api.ErrFull, put(strip(40)), put(strip(41)))
	writes(t, f, 6, put(strip(40)))
	writes(t, f, 7, drop(40), put(strip(41)))
	for v := 8; v <= 100; v++ {
		writes(t, f, v, put(strip(1)))
	}
	painted(t, f, k00)
	refuses(t, f, api.ErrFull, put(strip(1)))
	refuses(t, f, api.ErrFull, drop(1))
	refuses(t, f, api.ErrFull, api.Edit{Op: 5})
	refuses(t, f, api.ErrBatch)
	arrives(t, f, k00, "", 1, fine(1, k00, sevens, 100))
	arrives(t, f, k00, tag(k00, 100), 2, same(2, k00, 100))
}

// TestWriteEntries: P17, which entries go and which stay: a Put's new feature, that whose place it takes, and a Drop's.
func TestWriteEntries(t *testing.T) {
	water := inside(2, k00)
	water.Layer = 1
	late := inside(2, k00)
	late.From = 0
	corner := api.Feature{Id: 9, Ink: 1, N: 3, Xs: [8]int{256, 256, 256}, Ys: [8]int{256, 256, 256}}
	keys := append(block4(), root, api.Key{Layer: 1, Z: 22}, k20)
	for _, c := range []struct {
		batch []api.Edit
		gone  []api.Key
	}{
		{[]api.Edit{put(inside(2, k00))}, []api.Key{k00}},
		{[]api.Edit{put(inside(2, k11))}, []api.Key{k11}},
		{[]api.Edit{put(inside(1, k00))}, []api.Key{k00, k10}}, // 1 was in k10
		{[]api.Edit{put(inside(1, k10))}, []api.Key{k10}},
		{[]api.Edit{put(inside(1, tile(50, 50)))}, []api.Key{k10}},
		{[]api.Edit{drop(1)}, []api.Key{k10}},
		{[]api.Edit{put(inside(2, k01)), drop(2)}, []api.Key{k01}},
		{[]api.Edit{put(inside(2, k01)), put(inside(2, k11)), drop(2)}, []api.Key{k01, k11}},
		{[]api.Edit{put(inside(2, k01)), drop(1)}, []api.Key{k01, k10}},
		{[]api.Edit{put(inside(2, k00)), put(inside(3, k10)), put(inside(4, k01)), put(inside(5, k11))}, block4()},
		{[]api.Edit{put(inside(2, k20))}, []api.Key{k20}},
		{[]api.Edit{put(inside(2, tile(50, 50)))}, nil},
		{[]api.Edit{put(water)}, []api.Key{{Layer: 1, Z: 22}}},
		{[]api.Edit{put(late)}, []api.Key{k00, root}},
		{[]api.Edit{put(corner)}, append(block4(), root)},
	} {
		f := withCache(t, 2000)
		writes(t, f, 1, put(inside(1, k10)))
		painted(t, f, k00)
		painted(t, f, root)
		painted(t, f, api.Key{Layer: 1, Z: 22})
		painted(t, f, k20)
		looks(t, f, api.Look{Version: 1, Arrived: 4, Started: 4, Entries: 13, Bytes: 84 + len(body(t, k10, inside(1, k10)))})
		writes(t, f, 2, c.batch...)
		if n := f.Look().Entries; n != 13-len(c.gone) {
			t.Errorf("P17: %d entries behind %+v, want %d", n, c.batch, 13-len(c.gone))
		}
		var want []api.Key
		for _, k := range keys {
			gone := false
			for _, g := range c.gone {
				gone = gone || g == k
			}
			if !gone {
				want = append(want, k)
			}
		}
		if there := cached(t, f, keys...); !reflect.DeepEqual(there, want) {
			t.Errorf("P17: the cache has %v behind %+v, want %v", there, c.batch, want)
		}
	}
}

// TestWriteOrder: P17, the entries that stay are in the order of their last use as before.
func TestWriteOrder(t *testing.T) {
	f := withCache(t, 28)
	painted(t, f, k00)
	arrives(t, f, k00, "", 1, fine(1, k00, noughts, 0))
	arrives(t, f, k10, "", 2, fine(2, k10, noughts, 0))
	writes(t, f, 1, put(inside(1, k01))) // left are k11, k00, k10
	painted(t, f, root)                  // 28 bytes
	looks(t, f, api.Look{Version: 1, Arrived: 4, Started: 2, Entries: 4, Bytes: 28})
	painted(t, f, api.Key{Layer: 1})
	painted(t, f, api.Key{Layer: 2})
	wantCached(t, f, append(block4(), root, api.Key{Layer: 1}, api.Key{Layer: 2}), k10, root, api.Key{Layer: 1}, api.Key{Layer: 2})
}

// TestWriteAnswers: P17, the version's number, and that Arrive and Work go by the new features.
func TestWriteAnswers(t *testing.T) {
	f := withCache(t, 2000)
	painted(t, f, k00)
	for v := 1; v <= 100; v++ {
		edit, now := put(strip(1)), sevens
		if v%2 == 0 {
			edit, now = drop(1), noughts
		}
		writes(t, f, v, edit)
		looks(t, f, api.Look{Version: v, Arrived: 4*v - 3, Started: v, Entries: 3, Bytes: 21})
		arrives(t, f, k00, tag(k00, v), 4*v-3, same(4*v-3, k00, v))
		arrives(t, f, k00, tag(k00, v-1), 4*v-2)
		works(t, f, 0)
		works(t, f, 0, fine(4*v-2, k00, now, v))
		arrives(t, f, k00, tag(k00, v-1), 4*v-1, fine(4*v-1, k00, now, v))
		arrives(t, f, k10, "", 4*v, fine(4*v, k10, noughts, 0))
	}
}
