package front_test

import (
	"sort"
	"testing"

	"atlas/api"
	"atlas/shape"
	"atlas/wire"
)

// history is the features of each version, and what each batch touched, as the document tells it.
type history struct {
	sets    []map[int]api.Feature
	touched [][]api.Feature
}

func newHistory() *history {
	return &history{sets: []map[int]api.Feature{{}}, touched: [][]api.Feature{nil}}
}

func (h *history) version() int { return len(h.sets) - 1 }

func (h *history) apply(batch []api.Edit) (int, api.Errno) {
	if len(batch) == 0 || len(batch) > 8 {
		return 0, api.ErrBatch
	}
	if h.version() == 100 {
		return 0, api.ErrFull
	}
	set := map[int]api.Feature{}
	for id, f := range h.sets[h.version()] {
		set[id] = f
	}
	var touched []api.Feature
	for _, edit := range batch {
		old, there := set[edit.F.Id]
		switch {
		case edit.Op != 0 && edit.Op != 1:
			return 0, api.ErrEdit
		case edit.Op == 1 && !there:
			return 0, api.ErrNone
		case edit.Op == 0 && shape.Check(edit.F) != api.OK:
			return 0, api.ErrShape
		case edit.Op == 0 && !there && len(set) == 40:
			return 0, api.ErrFull
		}
		if there {
			touched = append(touched, old)
		}
		if edit.Op == 0 {
			touched = append(touched, edit.F)
			set[edit.F.Id] = edit.F
		} else {
			delete(set, edit.F.Id)
		}
	}
	h.sets = append(h.sets, set)
	h.touched = append(h.touched, touched)
	return h.version(), api.OK
}

// touches tells whether the batch of a version touches a key.
func (h *history) touches(version int, k api.Key) bool {
	for _, f := range h.touched[version] {
		if shape.Touches(f, k) {
			return true
		}
	}
	return false
}

func (h *history) stamp(version int, k api.Key) int {
	for v := version; v > 0; v-- {
		if h.touches(v, k) {
			return v
		}
	}
	return 0
}

func (h *history) features(version int) []api.Feature {
	var fs []api.Feature
	for _, f := range h.sets[version] {
		fs = append(fs, f)
	}
	sort.Slice(fs, func(i, j int) bool { return fs[i].Id < fs[j].Id })
	return fs
}

// picture is the tile of a key, of a version.
func (h *history) picture(t *testing.T, version int, k api.Key) string {
	t.Helper()
	inks, e := shape.Paint(h.features(version), k)
	if e != api.OK {
		t.Fatalf("Paint of version %d, %+v: %d", version, k, e)
	}
	return inks
}

// asker is a request that waits, in the model.
type asker struct {
	who, asked, due int
	key             api.Key
}

// job is a flight of the model, which knows its requests.
type job struct {
	layer, zoom, column, row int
	reads, left              int
	askers                   []asker
}

// entry of the model's cache: used is the number of its last use.
type entry struct {
	body, tag string
	used      int
}

// model is a front as the document tells it. It has flights that know their requests, and a cache whose entries know when they were used.
type model struct {
	t       *testing.T
	c       api.Config
	h       *history
	now     int
	arrived int
	started int
	uses    int
	line    []*job
	busy    map[int]*job
	cache   map[api.Key]entry
}

func newModel(t *testing.T, c api.Config) *model {
	return &model{t: t, c: c, h: newHistory(), busy: map[int]*job{}, cache: map[api.Key]entry{}}
}

func (m *model) jobs() []*job {
	var jobs []*job
	for worker := 0; worker < m.c.Workers; worker++ {
		if m.busy[worker] != nil {
			jobs = append(jobs, m.busy[worker])
		}
	}
	return append(jobs, m.line...)
}

func (m *model) waiting() int {
	n := 0
	for _, j := range m.jobs() {
		n += len(j.askers)
	}
	return n
}

func (m *model) bytes() int {
	n := 0
	for _, e := range m.cache {
		n += len(e.body)
	}
	return n
}

func (m *model) arrive(path string, with string) (int, []api.Reply) {
	who := m.arrived
	m.arrived++
	k, e := wire.Parse(path)
	if e == api.ErrPath {
		return who, []api.Reply{bad(who)}
	}
	if e != api.OK {
		return who, []api.Reply{missing(who)}
	}
	present := m.h.stamp(m.h.version(), k)
	if with == tag(k, present) {
		return who, []api.Reply{same(who, k, present)}
	}
	if entry, there := m.cache[k]; there {
		m.uses++
		entry.used = m.uses
		m.cache[k] = entry
		return who, []api.Reply{{Who: who, Status: 200, Body: entry.body, Tag: entry.tag}}
	}
	if m.waiting() == m.c.Queue {
		return who, []api.Reply{full(who)}
	}
	ask := asker{who: who, asked: m.h.version(), due: m.now + m.c.Wait, key: k}
	for _, j := range m.jobs() {
		if j.layer == k.Layer && j.zoom == k.Z && j.column == k.X/2 && j.row == k.Y/2 {
			j.askers = append(j.askers, ask)
			return who, nil
		}
	}
	m.line = append(m.line, &job{layer: k.Layer, zoom: k.Z, column: k.X / 2, row: k.Y / 2, askers: []asker{ask}})
	return who, nil
}

func (m *model) work(worker int) []api.Reply {
	if worker < 0 || worker >= m.c.Workers {
		return nil
	}
	j := m.busy[worker]
	if j == nil && len(m.line) == 0 {
		return nil
	}
	if j == nil {
		j = m.line[0]
		m.line = m.line[1:]
		m.busy[worker] = j
		m.started++
		j.reads = m.h.version()
		n := len(m.h.sets[j.reads])
		for j.left = 1; j.left*m.c.Chunk < n; {
			j.left++
		}
		return nil
	}
	j.left--
	if j.left > 0 {
		return nil
	}
	delete(m.busy, worker)
	replies := m.answer(j)
	m.fill(j)
	if len(j.askers) > 0 {
		m.line = append(m.line, j)
	}
	return replies
}

// made is the body and the tag of a tile, of a version.
func (m *model) made(version int, k api.Key) (string, string) {
	b, e := wire.Pack(m.h.picture(m.t, version, k))
	if e != api.OK {
		m.t.Fatalf("Pack: %d", e)
	}
	return b, tag(k, m.h.stamp(version, k))
}

func (m *model) unchanged(k api.Key, reads int) bool {
	for v := reads + 1; v <= m.h.version(); v++ {
		if m.h.touches(v, k) {
			return false
		}
	}
	return true
}

func (m *model) answer(j *job) []api.Reply {
	var replies []api.Reply
	var left []asker
	for _, ask := range j.askers {
		if ask.asked > j.reads && !m.unchanged(ask.key, j.reads) {
			left = append(left, ask)
			continue
		}
		b, g := m.made(j.reads, ask.key)
		replies = append(replies, api.Reply{Who: ask.who, Status: 200, Body: b, Tag: g})
	}
	j.askers = left
	sort.Slice(replies, func(a, b int) bool { return replies[a].Who < replies[b].Who })
	return replies
}

// fill lays the tiles of a block into the cache.
func (m *model) fill(j *job) {
	for i := 0; i < 4; i++ {
		k := api.Key{Layer: j.layer, Z: j.zoom, X: 2*j.column + i%2, Y: 2*j.row + i/2}
		if k.X >= 1<<k.Z || k.Y >= 1<<k.Z || !m.unchanged(k, j.reads) {
			continue
		}
		b, g := m.made(j.reads, k)
		if len(b) > m.c.Cache {
			continue
		}
		delete(m.cache, k)
		for m.bytes()+len(b) > m.c.Cache {
			m.evict()
		}
		m.uses++
		m.cache[k] = entry{body: b, tag: g, used: m.uses}
	}
}

func (m *model) evict() {
	var oldest api.Key
	least := m.uses + 1
	for k, e := range m.cache {
		if e.used < least {
			oldest, least = k, e.used
		}
	}
	delete(m.cache, oldest)
}

func (m *model) write(batch []api.Edit) (int, api.Errno) {
	n, e := m.h.apply(batch)
	if e != api.OK {
		return n, e
	}
	for k := range m.cache {
		if m.h.touches(n, k) {
			delete(m.cache, k)
		}
	}
	return n, e
}

func (m *model) tick() []api.Reply {
	m.now++
	var replies []api.Reply
	for _, j := range m.jobs() {
		var left []asker
		for _, ask := range j.askers {
			if ask.due <= m.now {
				replies = append(replies, late(ask.who))
			} else {
				left = append(left, ask)
			}
		}
		j.askers = left
	}
	var line []*job
	for _, j := range m.line {
		if len(j.askers) > 0 {
			line = append(line, j)
		}
	}
	m.line = line
	sort.Slice(replies, func(a, b int) bool { return replies[a].Who < replies[b].Who })
	return replies
}

func (m *model) look() api.Look {
	return api.Look{Version: m.h.version(), Now: m.now, Arrived: m.arrived, Waiting: m.waiting(), Line: len(m.line), Busy: len(m.busy), Entries: len(m.cache), Bytes: m.bytes(), Started: m.started}
}

func (m *model) flights() []api.Flight {
	var flights []api.Flight
	key := func(j *job) api.Key { return api.Key{Layer: j.layer, Z: j.zoom, X: 2 * j.column, Y: 2 * j.row} }
	for worker := 0; worker < m.c.Workers; worker++ {
		if j := m.busy[worker]; j != nil {
			flights = append(flights, api.Flight{Key: key(j), Worker: worker, Reads: j.reads, Left: j.left, Waiting: len(j.askers)})
		}
	}
	for _, j := range m.line {
		flights = append(flights, inLine(key(j), len(j.askers)))
	}
	return flights
}
