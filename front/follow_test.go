package front_test

import (
	"fmt"
	"math/rand"
	"testing"

	"atlas/api"
	"atlas/front"
	"atlas/wire"
)

// asked is what a witness knows of a request.
type asked struct {
	key      api.Key
	version  int // at its Arrive
	time     int // at its Arrive
	status   int // 0, as long as it waits
	painting bool
}

// witness sees the calls of a front and its answers, and checks what P20 says of them; it knows nothing of how they come about.
type witness struct {
	t      *testing.T
	f      *front.Front
	c      api.Config
	h      *history
	time   int
	waited int
	asked  []asked
	bodies map[string]string // of the Fine replies, by tag
	seen   map[string]int
}

func newWitness(t *testing.T, c api.Config) *witness {
	t.Helper()
	return &witness{t: t, f: made(t, c), c: c, h: newHistory(), bodies: map[string]string{}, seen: map[string]int{}}
}

// told takes note of replies.
func (w *witness) told(call string, replies []api.Reply, statuses ...int) {
	w.t.Helper()
	for i, r := range replies {
		if i > 0 && replies[i-1].Who >= r.Who {
			w.t.Fatalf("P15: %s answers %+v, not by rising numbers", call, replies)
		}
		if r.Who < 0 || r.Who >= len(w.asked) {
			w.t.Fatalf("P20: %s answers %+v, and %d requests have come", call, r, len(w.asked))
		}
		a := &w.asked[r.Who]
		if a.status != 0 {
			w.t.Fatalf("P20, ONCE: %s answers %+v, which was answered %d", call, r, a.status)
		}
		a.status = r.Status
		known := false
		for _, s := range statuses {
			known = known || s == r.Status
		}
		if !known {
			w.t.Fatalf("P20: %s answers %+v", call, r)
		}
		w.seen[fmt.Sprint(r.Status)]++
		w.fresh(*a, r)
	}
}

// fresh checks the body of a reply.
func (w *witness) fresh(a asked, r api.Reply) {
	w.t.Helper()
	switch r.Status {
	case 200:
		inks, e := wire.Unpack(r.Body)
		if e != api.OK {
			w.t.Fatalf("P20, FRESH: the body of %+v: %d", r, e)
		}
		found := false
		for v := w.h.version(); v >= a.version && !found; v-- {
			found = inks == w.h.picture(w.t, v, a.key)
		}
		if !found {
			w.t.Fatalf("P20, FRESH: %+v is %+v of no version from %d to %d", r, a.key, a.version, w.h.version())
		}
		if old, there := w.bodies[r.Tag]; there && old != r.Body {
			w.t.Fatalf("P20: the tag of %+v had the body %x", r, old)
		} else if there {
			w.seen["tag again"]++
		}
		w.bodies[r.Tag] = r.Body
	case 304:
		b, there := w.bodies[r.Tag]
		if !there {
			return
		}
		w.seen["same of a fine one"]++
		if inks, e := wire.Unpack(b); e != api.OK || inks != w.h.picture(w.t, w.h.version(), a.key) {
			w.t.Fatalf("P20: %+v, and the body of that tag is %x, not the present one", r, b)
		}
	default:
		if r.Body != "" || r.Tag != "" {
			w.t.Fatalf("P15: %+v", r)
		}
	}
}

func (w *witness) arrive(path string, with string) {
	w.t.Helper()
	waiting := w.f.Look().Waiting
	k, _ := wire.Parse(path)
	w.asked = append(w.asked, asked{key: k, version: w.h.version(), time: w.time})
	n, replies := w.f.Arrive(path, with)
	if n != len(w.asked)-1 || len(replies) > 1 || len(replies) == 1 && replies[0].Who != n {
		w.t.Fatalf("P15: Arrive(%q, %q) = %d, %+v, of request %d", path, with, n, replies, len(w.asked)-1)
	}
	w.told("Arrive", replies, 200, 304, 400, 404, 503)
	if len(replies) == 0 {
		w.waited++
	} else if replies[0].Status == 503 && waiting != w.c.Queue {
		w.t.Fatalf("P20: Full, and %d of %d wait", waiting, w.c.Queue)
	}
}

// ofWorker is the flight that a worker has.
func ofWorker(flights []api.Flight, worker int) (api.Flight, bool) {
	for _, l := range flights {
		if worker >= 0 && l.Worker == worker {
			return l, true
		}
	}
	return api.Flight{}, false
}

// inBlock tells whether a tile is of the block with this own key.
func inBlock(k api.Key, own api.Key) bool {
	return k.Layer == own.Layer && k.Z == own.Z && k.X/2 == own.X/2 && k.Y/2 == own.Y/2
}

func (w *witness) work(worker int) {
	w.t.Helper()
	before, had := ofWorker(w.f.Flights(), worker)
	w.told("Work", w.f.Work(worker), 200)
	after, has := ofWorker(w.f.Flights(), worker)
	if had && has && (after.Key != before.Key || after.Reads != before.Reads || after.Left != before.Left-1) {
		w.t.Fatalf("P16: worker %d had %+v, and has %+v", worker, before, after)
	}
	for i := range w.asked {
		a := &w.asked[i]
		if a.status != 0 {
			continue
		}
		if !had && has && inBlock(a.key, after.Key) {
			a.painting = true
		}
		if had && !has && inBlock(a.key, before.Key) {
			w.seen["again"]++
			if a.painting {
				w.t.Fatalf("P20: the request %d, %+v, still waits behind the painting that began behind it", i, *a)
			}
		}
	}
}

func (w *witness) tick() {
	w.t.Helper()
	w.time++
	replies := w.f.Tick()
	w.told("Tick", replies, 504)
	for _, r := range replies {
		if a := w.asked[r.Who]; a.time+w.c.Wait != w.time {
			w.t.Fatalf("P20, ONCE: %+v is late at %d, Wait is %d", a, w.time, w.c.Wait)
		}
	}
	for i, a := range w.asked {
		if a.status == 0 && a.time+w.c.Wait <= w.time {
			w.t.Fatalf("P20, ONCE: request %d, %+v, has no reply at %d, Wait is %d", i, a, w.time, w.c.Wait)
		}
	}
}

func (w *witness) write(batch []api.Edit) {
	w.t.Helper()
	n, e := w.f.Write(batch)
	if want, wantError := w.h.apply(batch); n != want || e != wantError {
		w.t.Fatalf("P17: Write(%+v) = %d, %d, want %d, %d", batch, n, e, want, wantError)
	}
}

// waiting are the numbers of the requests without a reply.
func (w *witness) waiting() []int {
	var numbers []int
	for i, a := range w.asked {
		if a.status == 0 {
			numbers = append(numbers, i)
		}
	}
	return numbers
}

// bounds checks what P20 says of any time.
func (w *witness) bounds() {
	w.t.Helper()
	look := w.f.Look()
	if look.Waiting > w.c.Queue || look.Line > look.Waiting || look.Busy > w.c.Workers || look.Bytes > w.c.Cache || look.Started > w.waited {
		w.t.Fatalf("P20: %+v, with %+v, and %d requests waited", look, w.c, w.waited)
	}
	if n := len(w.waiting()); look.Waiting != n || look.Version != w.h.version() || look.Now != w.time || look.Arrived != len(w.asked) {
		w.t.Fatalf("P19: %+v, and %d wait, version %d, time %d, %d came", look, n, w.h.version(), w.time, len(w.asked))
	}
	keys := map[api.Key]bool{}
	for _, l := range w.f.Flights() {
		if keys[l.Key] {
			w.t.Fatalf("P20: two flights of %+v", l.Key)
		}
		keys[l.Key] = true
	}
	if len(keys) != look.Line+look.Busy {
		w.t.Fatalf("P19: %d flights, and %+v", len(keys), look)
	}
	w.seen[fmt.Sprint("busy ", look.Busy)]++
}

// calm calls every worker as often as P20 says, in turns, and nothing else.
func (w *witness) calm() {
	w.t.Helper()
	waiting := w.waiting()
	w.seen[fmt.Sprint("calm ", len(waiting))]++
	for i := 0; i < (w.c.Queue+2)*41; i++ {
		for worker := 0; worker < w.c.Workers; worker++ {
			w.work(worker)
			if i%41 == 0 {
				w.bounds()
			}
		}
	}
	look, flights := w.f.Look(), w.f.Flights()
	if look.Waiting != 0 || look.Line != 0 || look.Busy != 0 || len(flights) != 0 {
		w.t.Fatalf("P20, CALM: %+v, %+v", look, flights)
	}
	for _, i := range waiting {
		if w.asked[i].status != 200 {
			w.t.Fatalf("P20, CALM: the request %d, %+v, was not answered Fine", i, w.asked[i])
		}
	}
}

func (w *witness) step(source *rand.Rand, rush int) {
	w.t.Helper()
	switch n := source.Intn(40); {
	case n < 4+5*rush:
		k := someKey(source)
		w.arrive(somePath(source, k), someTag(source, w.h, k))
	case n < 34:
		w.work(source.Intn(w.c.Workers+2) - 1)
	case n < 37:
		w.write(someBatch(source, w.h))
	default:
		w.tick()
	}
	w.bounds()
}

// run makes many calls, and gives what came out.
func run(t *testing.T, seed int64, calls int) map[string]int {
	t.Helper()
	source := rand.New(rand.NewSource(seed))
	w := newWitness(t, someConfig(source))
	rush := source.Intn(4)
	for i := 0; i < calls; i++ {
		w.step(source, rush)
		if source.Intn(400) == 0 {
			w.calm()
		}
	}
	w.calm()
	return w.seen
}

// TestFollows: P20, each of its sentences, over long runs of calls of every kind.
func TestFollows(t *testing.T) {
	seen := map[string]int{}
	for seed := int64(1000); seed < 1080; seed++ {
		for what, n := range run(t, seed, 1000) {
			seen[what] += n
		}
	}
	for _, what := range []string{"200", "304", "400", "404", "503", "504", "tag again", "same of a fine one", "again", "busy 0", "busy 1", "busy 2", "busy 3", "busy 4", "calm 0", "calm 1", "calm 4", "calm 8"} {
		if seen[what] < 5 {
			t.Errorf("the runs have %q only %d times: %v", what, seen[what], seen)
		}
	}
}

// TestFollowsAnew: P20, the same over runs that are others each time; a failure tells the run's seed.
func TestFollowsAnew(t *testing.T) {
	for i := 0; i < 30; i++ {
		seed := rand.Int63()
		t.Logf("the run of the seed %d", seed)
		run(t, seed, 800)
	}
}

// TestCalm: P20, CALM where there is most to do: as many features as there may be, one to a chunk, each request for a block of its own, flights that were taken and go back to the line.
func TestCalm(t *testing.T) {
	for workers := 1; workers <= 4; workers++ {
		for queue := 1; queue <= 8; queue++ {
			for taken := 0; taken <= min(workers, queue); taken++ {
				w := newWitness(t, api.Config{Queue: queue, Workers: workers, Wait: 50, Cache: 50, Chunk: 1})
				for v := 0; v < 5; v++ {
					var batch []api.Edit
					for id := 8*v + 1; id <= 8*v+8; id++ {
						batch = append(batch, put(inside(id, tile(id%5, id%3))))
					}
					w.write(batch)
				}
				// Some are taken, are late, and are asked for anew behind a Write.
				for i := 0; i < taken; i++ {
					w.arrive(path(tile(2*i, 0)), "")
					w.work(i)
				}
				for i := 0; i < 50; i++ {
					w.tick()
				}
				for i := 0; i < queue; i++ {
					w.write([]api.Edit{put(inside(1+i, tile(2*i, 0)))})
					w.arrive(path(tile(2*i, 0)), "")
				}
				w.bounds()
				if n := len(w.waiting()); n != queue {
					t.Fatalf("%d requests wait, want %d", n, queue)
				}
				w.calm()
				if w.seen["again"] != taken {
					t.Fatalf("%d requests waited for a second painting, want %d", w.seen["again"], taken)
				}
			}
		}
	}
}

// TestStarted: P20, Started is at most the number of requests that waited, also where flights go back to the line.
func TestStarted(t *testing.T) {
	w := newWitness(t, api.Config{Queue: 8, Workers: 1, Wait: 50, Cache: 0, Chunk: 8})
	for v := 1; v <= 100; v++ {
		w.arrive(path(k00), "")
		w.work(0)
		w.write([]api.Edit{put(inside(1, k00))})
		w.arrive(path(k00), "")
		w.bounds()
		w.work(0)
		w.bounds()
	}
	w.calm()
	if look := w.f.Look(); look.Started > 200 || look.Started < 100 {
		t.Errorf("P20: %+v, and 200 requests waited", look)
	}
}

// TestFreshOldVersion: P20, FRESH: a request that came ahead of many Writes may have the version at its Arrive, one that came behind them may not.
func TestFreshOldVersion(t *testing.T) {
	w := newWitness(t, api.Config{Queue: 8, Workers: 2, Wait: 50, Cache: 100, Chunk: 1})
	w.write([]api.Edit{put(strip(1)), put(inside(2, k11))})
	w.arrive(path(k00), "")
	w.work(1)
	for v := 2; v <= 30; v++ {
		w.write([]api.Edit{put(inside(1, tile(v%2, 0)))})
		if v%5 == 0 {
			w.arrive(path(tile(v%2, 0)), "")
		}
		w.bounds()
	}
	w.work(1)
	w.work(1)
	if n := len(w.waiting()); n != 6 {
		t.Errorf("P16: %d requests wait, want 6", n)
	}
	w.calm()
}
