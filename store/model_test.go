package store_test

import (
	"math"
	"math/rand"
	"reflect"
	"sort"
	"testing"

	"atlas/api"
	"atlas/shape"
	"atlas/store"
)

// extremes are numbers that no field of a feature may have, and no version, and no keep.
var extremes = []int{math.MinInt, math.MinInt + 1, math.MinInt32, -1001, -1, 1<<30 + 1, math.MaxInt32, math.MaxInt - 1, math.MaxInt}

// inside is a right area whose box lies in the inner of the square of the key 0, 22, x, y.
func inside(id int, x int, y int) api.Feature {
	f := api.Feature{Id: id, Ink: 1 + id%15, Rank: id % 10, N: 3}
	f.Xs = [8]int{256*x + 10, 256*x + 200, 256*x + 10}
	f.Ys = [8]int{256*y + 10, 256*y + 10, 256*y + 200}
	return f
}

// tile is the key that inside lies in.
func tile(x int, y int) api.Key { return api.Key{Z: 22, X: x, Y: y} }

func put(f api.Feature) api.Edit { return api.Edit{Op: api.Put, F: f} }

func drop(id int) api.Edit { return api.Edit{Op: api.Drop, F: api.Feature{Id: id}} }

func fresh(t *testing.T, keep int) *store.Store {
	t.Helper()
	s, e := store.New(keep)
	if s == nil || e != api.OK {
		t.Fatalf("P9: New(%d) = %v, %d", keep, s, e)
	}
	return s
}

// apply a batch that has no error.
func apply(t *testing.T, s *store.Store, batch ...api.Edit) {
	t.Helper()
	want := s.Version() + 1
	if n, e := s.Apply(batch); n != want || e != api.OK {
		t.Fatalf("P10: Apply(%+v) = %d, %d, want %d", batch, n, e, want)
	}
	if s.Version() != want {
		t.Fatalf("P10: Version() = %d, want %d", s.Version(), want)
	}
}

// refuse wants an error of a batch, and that it changes nothing.
func refuse(t *testing.T, s *store.Store, want api.Errno, batch ...api.Edit) {
	t.Helper()
	before := told(s)
	if n, e := s.Apply(batch); n != 0 || e != want {
		t.Errorf("P10: Apply(%+v) = %d, %d, want 0, %d", batch, n, e, want)
	}
	if after := told(s); !reflect.DeepEqual(before, after) {
		t.Errorf("P10: Apply(%+v), refused, made of\n%+v\nthis:\n%+v", batch, before, after)
	}
}

// fill puts the features first to last, each into the tile with its Id for an X, eight in a batch.
func fill(t *testing.T, s *store.Store, first int, last int) {
	t.Helper()
	var batch []api.Edit
	for id := first; id <= last; id++ {
		batch = append(batch, put(inside(id, id, 0)))
		if len(batch) == 8 || id == last {
			apply(t, s, batch...)
			batch = nil
		}
	}
}

// all features of a version, by chunks of n.
func all(t *testing.T, s *store.Store, version int, n int) []api.Feature {
	t.Helper()
	var fs []api.Feature
	after := 0
	for {
		chunk, e := s.Read(version, after, n)
		if e != api.OK {
			t.Fatalf("P12: Read(%d, %d, %d): %d", version, after, n, e)
		}
		if len(chunk) == 0 {
			return fs
		}
		fs = append(fs, chunk...)
		if after = fs[len(fs)-1].Id; len(fs) > 40 {
			t.Fatalf("P12: version %d has %d features or more", version, len(fs))
		}
	}
}

// wantFeatures of a version, by rising Id.
func wantFeatures(t *testing.T, s *store.Store, version int, want ...api.Feature) {
	t.Helper()
	if fs := all(t, s, version, 8); len(fs)+len(want) > 0 && !reflect.DeepEqual(fs, want) {
		t.Errorf("P12: version %d has\n%+v\nwant\n%+v", version, fs, want)
	}
}

func wantHeld(t *testing.T, s *store.Store, want ...int) {
	t.Helper()
	if held := s.Held(); !reflect.DeepEqual(held, want) {
		t.Errorf("P11: Held() = %v at version %d, want %v", held, s.Version(), want)
	}
}

func wantPin(t *testing.T, s *store.Store, version int, want api.Errno) {
	t.Helper()
	if e := s.Pin(version); e != want {
		t.Errorf("P11: Pin(%d) = %d, want %d (version %d, held %v)", version, e, want, s.Version(), s.Held())
	}
}

func wantUnpin(t *testing.T, s *store.Store, version int, want api.Errno) {
	t.Helper()
	if e := s.Unpin(version); e != want {
		t.Errorf("P11: Unpin(%d) = %d, want %d (version %d, held %v)", version, e, want, s.Version(), s.Held())
	}
}

func wantStamp(t *testing.T, s *store.Store, version int, k api.Key, want int) {
	t.Helper()
	if n, e := s.Stamp(version, k); n != want || e != api.OK {
		t.Errorf("P13: Stamp(%d, %+v) = %d, %d, want %d", version, k, n, e, want)
	}
}

// wantStamps of a key, from version 0 on.
func wantStamps(t *testing.T, s *store.Store, k api.Key, want ...int) {
	t.Helper()
	for v, n := range want {
		wantStamp(t, s, v, k, n)
	}
}

// picture is what a store tells.
type picture struct {
	version int
	held    []int
	chunks  [][]api.Feature
	stamps  []int
	errors  []api.Errno
}

// told asks a store for all that it tells of its versions, and of one too few and one too many.
func told(s *store.Store) picture {
	p := picture{version: s.Version(), held: append([]int{}, s.Held()...)}
	keys := []api.Key{{}, {Layer: 1}, {Z: 22}, {Z: 22, X: 1}, {Z: 22, X: 2}, {Z: 22, X: 3}, {Z: 22, X: 7}, {Z: 13, X: 0}, {Layer: 3, Z: 22}}
	for v := -1; v <= p.version+1; v++ {
		for after := 0; after <= 40; after += 8 {
			chunk, e := s.Read(v, after, 8)
			p.chunks = append(p.chunks, append([]api.Feature{}, chunk...))
			p.errors = append(p.errors, e)
		}
		for _, k := range keys {
			n, e := s.Stamp(v, k)
			p.stamps = append(p.stamps, n)
			p.errors = append(p.errors, e)
		}
	}
	return p
}

// model is a store as the document tells it: each version is a set of its own, each batch a list of what it touched.
type model struct {
	keep    int
	sets    []map[int]api.Feature
	touched [][]api.Feature
	pins    []int
}

func newModel(keep int) *model {
	return &model{keep: keep, sets: []map[int]api.Feature{{}}, touched: [][]api.Feature{nil}}
}

func (m *model) version() int { return len(m.sets) - 1 }

func (m *model) apply(batch []api.Edit) (int, api.Errno) {
	if len(batch) == 0 || len(batch) > 8 {
		return 0, api.ErrBatch
	}
	if m.version() == 100 {
		return 0, api.ErrFull
	}
	set := map[int]api.Feature{}
	for id, f := range m.sets[m.version()] {
		set[id] = f
	}
	var touched []api.Feature
	for _, edit := range batch {
		old, there := set[edit.F.Id]
		switch {
		case edit.Op != 0 && edit.Op != 1:
			return 0, api.ErrEdit
		case edit.Op == 1 && !there:
			return 0, api.ErrNone
		case edit.Op == 0 && shape.Check(edit.F) != api.OK:
			return 0, api.ErrShape
		case edit.Op == 0 && !there && len(set) == 40:
			return 0, api.ErrFull
		}
		if there {
			touched = append(touched, old)
		}
		if edit.Op == 0 {
			touched = append(touched, edit.F)
			set[edit.F.Id] = edit.F
		} else {
			delete(set, edit.F.Id)
		}
	}
	m.sets = append(m.sets, set)
	m.touched = append(m.touched, touched)
	return m.version(), api.OK
}

func (m *model) held() []int {
	var held []int
	for v := range m.sets {
		pinned := false
		for _, p := range m.pins {
			pinned = pinned || p == v
		}
		if pinned || m.version()-v <= m.keep {
			held = append(held, v)
		}
	}
	return held
}

func (m *model) isHeld(version int) bool {
	for _, v := range m.held() {
		if v == version {
			return true
		}
	}
	return false
}

func (m *model) pin(version int) api.Errno {
	if !m.isHeld(version) {
		return api.ErrVersion
	}
	if len(m.pins) == 6 {
		return api.ErrPins
	}
	m.pins = append(m.pins, version)
	return api.OK
}

func (m *model) unpin(version int) api.Errno {
	for i, p := range m.pins {
		if p == version {
			m.pins = append(m.pins[:i], m.pins[i+1:]...)
			return api.OK
		}
	}
	return api.ErrVersion
}

func (m *model) read(version int, after int, n int) ([]api.Feature, api.Errno) {
	if !m.isHeld(version) {
		return nil, api.ErrVersion
	}
	if n < 1 || n > 8 {
		return nil, api.ErrArg
	}
	var fs []api.Feature
	for id, f := range m.sets[version] {
		if id > after {
			fs = append(fs, f)
		}
	}
	sort.Slice(fs, func(i, j int) bool { return fs[i].Id < fs[j].Id })
	return fs[:min(n, len(fs))], api.OK
}

// keyModel: the section Words, the error of a key.
func keyModel(k api.Key) api.Errno {
	switch {
	case k.Layer < 0 || k.Layer > 3:
		return api.ErrLayer
	case k.Z < 0 || k.Z > 22:
		return api.ErrZoom
	case k.X < 0 || k.Y < 0 || k.X >= 1<<k.Z || k.Y >= 1<<k.Z:
		return api.ErrPlace
	}
	return api.OK
}

func (m *model) stamp(version int, k api.Key) (int, api.Errno) {
	if e := keyModel(k); e != api.OK {
		return 0, e
	}
	if version < 0 || version > m.version() {
		return 0, api.ErrVersion
	}
	for v := version; v > 0; v-- {
		for _, f := range m.touched[v] {
			if shape.Touches(f, k) {
				return v, api.OK
			}
		}
	}
	return 0, api.OK
}

// someFeature is a right one, most often small and near the corner of the world, so that features meet each other and the keys of someKey.
func someFeature(source *rand.Rand) api.Feature {
	f := api.Feature{Id: 1 + source.Intn(50), Layer: source.Intn(2), Ink: 1 + source.Intn(15), Rank: source.Intn(10), From: 22 - source.Intn(3), N: 3 + source.Intn(6)}
	if source.Intn(3) == 0 {
		f.Kind, f.Size, f.N = api.Dot, 1+source.Intn(3), 1
	}
	if source.Intn(9) == 0 {
		f.Id = 1 + source.Intn(1000)
	}
	left, top := 100*source.Intn(12), 100*source.Intn(12)
	for i := 0; i < f.N; i++ {
		f.Xs[i], f.Ys[i] = left+source.Intn(300), top+source.Intn(300)
	}
	return f
}

func someKey(source *rand.Rand) api.Key {
	k := api.Key{Layer: source.Intn(2), Z: 20 + source.Intn(3), X: source.Intn(6), Y: source.Intn(6)}
	switch source.Intn(20) {
	case 0:
		k.Layer = 4 - 5*source.Intn(2)
	case 1:
		k.Z = 23 - 24*source.Intn(2)
	case 2:
		k.X = 1 << k.Z
	case 3:
		k.Y = -1
	}
	return k
}

// someBatch is most often one that is not refused: of the Ids that are there, and of others.
func someBatch(source *rand.Rand, m *model) []api.Edit {
	var batch []api.Edit
	var ids []int
	for id := range m.sets[m.version()] {
		ids = append(ids, id)
	}
	sort.Ints(ids)
	for n := 1 + source.Intn(8); n > 0; n-- {
		edit := put(someFeature(source))
		if len(ids) > 0 && source.Intn(5) < 2 {
			edit.F.Id = ids[source.Intn(len(ids))]
			edit.Op = source.Intn(2)
		}
		switch source.Intn(120) {
		case 0:
			edit.Op = 2
		case 1:
			edit.F.Ink = 16
		case 2:
			edit = drop(source.Intn(1002))
		}
		batch = append(batch, edit)
	}
	switch source.Intn(60) {
	case 0:
		return nil
	case 1:
		return make([]api.Edit, 9)
	}
	return batch
}

// someVersion is most often one that is, or was, or will soon be.
func someVersion(source *rand.Rand, newest int) int {
	if source.Intn(3) > 0 {
		return newest - source.Intn(7) + 1
	}
	return source.Intn(newest+3) - 1
}

// pair is a store and its model.
type pair struct {
	s *store.Store
	m *model
	// How often each call had each answer.
	seen map[string]map[api.Errno]int
}

func newPair(t *testing.T, keep int) *pair {
	t.Helper()
	return &pair{s: fresh(t, keep), m: newModel(keep), seen: map[string]map[api.Errno]int{}}
}

func (p *pair) saw(call string, e api.Errno) {
	if p.seen[call] == nil {
		p.seen[call] = map[api.Errno]int{}
	}
	p.seen[call][e]++
}

// step makes one call, of the store and of the model, and compares.
func (p *pair) step(t *testing.T, source *rand.Rand) {
	t.Helper()
	v := someVersion(source, p.m.version())
	switch source.Intn(6) {
	case 0, 1:
		p.stepApply(t, someBatch(source, p.m))
	case 2:
		e, want := p.s.Pin(v), p.m.pin(v)
		if e != want {
			t.Fatalf("P11: Pin(%d) = %d, want %d", v, e, want)
		}
		p.saw("Pin", e)
	case 3:
		if len(p.m.pins) > 0 && source.Intn(2) == 0 {
			v = p.m.pins[source.Intn(len(p.m.pins))]
		}
		e, want := p.s.Unpin(v), p.m.unpin(v)
		if e != want {
			t.Fatalf("P11: Unpin(%d) = %d, want %d", v, e, want)
		}
		p.saw("Unpin", e)
	case 4:
		p.stepRead(t, v, source.Intn(60)-2, source.Intn(11)-1)
	case 5:
		k := someKey(source)
		n, e := p.s.Stamp(v, k)
		if want, wantError := p.m.stamp(v, k); n != want || e != wantError {
			t.Fatalf("P13: Stamp(%d, %+v) = %d, %d, want %d, %d", v, k, n, e, want, wantError)
		}
		p.saw("Stamp", e)
	}
	if held, want := p.s.Held(), p.m.held(); p.s.Version() != p.m.version() || !reflect.DeepEqual(held, want) {
		t.Fatalf("P9, P11: Version %d, Held %v, want %d, %v", p.s.Version(), held, p.m.version(), want)
	}
}

func (p *pair) stepApply(t *testing.T, batch []api.Edit) {
	t.Helper()
	n, e := p.s.Apply(batch)
	if want, wantError := p.m.apply(batch); n != want || e != wantError {
		t.Fatalf("P10: Apply(%+v) = %d, %d, want %d, %d", batch, n, e, want, wantError)
	}
	p.saw("Apply", e)
}

func (p *pair) stepRead(t *testing.T, version int, after int, n int) {
	t.Helper()
	fs, e := p.s.Read(version, after, n)
	want, wantError := p.m.read(version, after, n)
	if len(fs) != len(want) || e != wantError {
		t.Fatalf("P12: Read(%d, %d, %d) = %+v, %d, want %+v, %d", version, after, n, fs, e, want, wantError)
	}
	for i := range fs {
		if fs[i] != want[i] {
			t.Fatalf("P12: Read(%d, %d, %d) = %+v, want %+v", version, after, n, fs, want)
		}
	}
	p.saw("Read", e)
}

// whole compares all features of all versions that are held, and many stamps.
func (p *pair) whole(t *testing.T, source *rand.Rand) {
	t.Helper()
	for v := 0; v <= p.m.version(); v++ {
		for after := 0; p.m.isHeld(v) && after < 1000; {
			p.stepRead(t, v, after, 8)
			chunk, _ := p.m.read(v, after, 8)
			after = 1000
			if len(chunk) > 0 {
				after = chunk[len(chunk)-1].Id
			}
		}
		for i := 0; i < 8; i++ {
			k := someKey(source)
			n, e := p.s.Stamp(v, k)
			if want, wantError := p.m.stamp(v, k); n != want || e != wantError {
				t.Fatalf("P13: Stamp(%d, %+v) = %d, %d, want %d, %d", v, k, n, e, want, wantError)
			}
		}
	}
}
