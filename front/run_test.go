package front_test

import (
	"math/rand"
	"reflect"
	"testing"

	"atlas/api"
	"atlas/front"
	"atlas/store"
)

// pair is a front and its model.
type pair struct {
	t    *testing.T
	f    *front.Front
	m    *model
	rush int            // how many requests come
	seen map[string]int // how often what came out
}

func newPair(t *testing.T, c api.Config) *pair {
	t.Helper()
	return &pair{t: t, f: made(t, c), m: newModel(t, c), rush: 2, seen: map[string]int{}}
}

// saw counts the replies of a call.
func (p *pair) saw(call string, replies []api.Reply) {
	if len(replies) == 0 {
		p.seen[call+" none"]++
	}
	for _, r := range replies {
		p.seen[call+" "+map[int]string{200: "fine", 304: "same", 400: "bad", 404: "missing", 503: "full", 504: "late"}[r.Status]]++
	}
	if len(replies) > 1 {
		p.seen[call+" several"]++
	}
}

func (p *pair) arrive(path string, with string) {
	p.t.Helper()
	n, replies := p.f.Arrive(path, with)
	want, wantReplies := p.m.arrive(path, with)
	if n != want || !alike(replies, wantReplies) {
		p.t.Fatalf("P15: Arrive(%q, %q) = %d, %+v, want %d, %+v", path, with, n, replies, want, wantReplies)
	}
	p.saw("Arrive", replies)
}

func (p *pair) work(worker int) {
	p.t.Helper()
	line := len(p.m.line)
	replies, want := p.f.Work(worker), p.m.work(worker)
	if !alike(replies, want) {
		p.t.Fatalf("P16: Work(%d) = %+v, want %+v", worker, replies, want)
	}
	p.saw("Work", replies)
	if len(p.m.line) > line {
		p.seen["Work again"]++
	}
}

func (p *pair) write(batch []api.Edit) {
	p.t.Helper()
	entries := len(p.m.cache)
	n, e := p.f.Write(batch)
	if want, wantError := p.m.write(batch); n != want || e != wantError {
		p.t.Fatalf("P17: Write(%+v) = %d, %d, want %d, %d", batch, n, e, want, wantError)
	}
	p.seen["Write "+map[api.Errno]string{api.OK: "ok", api.ErrBatch: "batch", api.ErrFull: "full", api.ErrEdit: "edit", api.ErrShape: "shape", api.ErrNone: "none"}[e]]++
	if len(p.m.cache) < entries && len(p.m.cache) > 0 {
		p.seen["Write some go"]++
	}
}

func (p *pair) tick() {
	p.t.Helper()
	line := len(p.m.line)
	replies, want := p.f.Tick(), p.m.tick()
	if !alike(replies, want) {
		p.t.Fatalf("P18: Tick() = %+v, want %+v", replies, want)
	}
	p.saw("Tick", replies)
	if len(p.m.line) < line {
		p.seen["Tick ends"]++
	}
}

// same compares what is told.
func (p *pair) same() {
	p.t.Helper()
	if look, want := p.f.Look(), p.m.look(); look != want {
		p.t.Fatalf("P19: Look() = %+v, want %+v", look, want)
	}
	flights, want := p.f.Flights(), p.m.flights()
	if len(flights)+len(want) > 0 && !reflect.DeepEqual(flights, want) {
		p.t.Fatalf("P19: Flights() = %+v, want %+v", flights, want)
	}
}

// step makes one call, of the front and of the model.
func (p *pair) step(source *rand.Rand) {
	p.t.Helper()
	switch n := source.Intn(40); {
	case n < 4+5*p.rush:
		k := someKey(source)
		p.arrive(somePath(source, k), someTag(source, p.m.h, k))
	case n < 34:
		p.work(source.Intn(p.m.c.Workers+2) - 1)
	case n < 37:
		p.write(someBatch(source, p.m.h))
	default:
		p.tick()
	}
	p.same()
}

// TestRuns: P14 to P19, calls of all kinds in any order, compared with the model.
func TestRuns(t *testing.T) {
	seen := map[string]int{}
	most, last, bytes := 0, 0, 0
	for seed := int64(0); seed < 150; seed++ {
		source := rand.New(rand.NewSource(seed))
		p := newPair(t, someConfig(source))
		p.rush = source.Intn(4)
		for i := 0; i < 200+15*int(seed); i++ {
			p.step(source)
			most = max(most, len(p.m.h.sets[p.m.h.version()]))
			bytes = max(bytes, p.m.bytes())
		}
		last = max(last, p.m.h.version())
		for what, n := range p.seen {
			seen[what] += n
		}
	}
	if most != 40 || last != 100 || bytes < 800 {
		t.Errorf("the runs came to %d features, to version %d and to %d bytes", most, last, bytes)
	}
	for _, what := range []string{"Arrive none", "Arrive fine", "Arrive same", "Arrive bad", "Arrive missing", "Arrive full", "Work none", "Work fine", "Work several", "Work again", "Write ok", "Write batch", "Write full", "Write edit", "Write shape", "Write none", "Write some go", "Tick none", "Tick late", "Tick several", "Tick ends"} {
		if seen[what] < 50 {
			t.Errorf("the runs have %q only %d times", what, seen[what])
		}
	}
}

// TestFrontsBeside: P2, fronts beside each other, and a store beside them: each goes on as its own model does.
func TestFrontsBeside(t *testing.T) {
	source := rand.New(rand.NewSource(77))
	pairs := []*pair{newPair(t, small), newPair(t, small), newPair(t, wide), newPair(t, someConfig(source))}
	s, e := store.New(0)
	if e != api.OK {
		t.Fatalf("P9: store.New(0): %d", e)
	}
	beside := newHistory()
	for i := 0; i < 4000; i++ {
		pairs[source.Intn(len(pairs))].step(source)
		if i%50 == 0 {
			batch := someBatch(source, beside)
			n, e := s.Apply(batch)
			if want, wantError := beside.apply(batch); n != want || e != wantError || s.Version() != beside.version() || len(s.Held()) != 1 {
				t.Fatalf("P2: beside fronts, Apply(%+v) = %d, %d, want %d, %d", batch, n, e, want, wantError)
			}
			for _, p := range pairs {
				p.same()
			}
		}
	}
}
