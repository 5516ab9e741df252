package front_test

import (
	"math"
	"math/rand"
	"reflect"
	"strings"
	"testing"

	"atlas/api"
	"atlas/front"
)

var numbers = []int{math.MinInt, math.MinInt + 1, math.MinInt32, -101, -1, 0, 1, 2, 3, 4, 5, 8, 9, 22, 23, 40, 41, 50, 51, 100, 101, 1000, 1001, 2000, 2001, 1 << 30, 1<<30 + 1, math.MaxInt32, math.MaxInt - 1, math.MaxInt}

// TestAnyConfig: P1 and P14, numbers of any size in two fields at a time.
func TestAnyConfig(t *testing.T) {
	isIn := func(n int, r [2]int) bool { return n >= r[0] && n <= r[1] }
	for a := range ranges {
		for b := range ranges {
			for _, n := range numbers {
				for _, m := range numbers {
					c := withNumber(a, n)
					*[]*int{&c.Queue, &c.Workers, &c.Wait, &c.Cache, &c.Chunk}[b] = m
					right := isIn(m, ranges[b]) && (a == b || isIn(n, ranges[a]))
					f, e := front.New(c)
					if right && (f == nil || e != api.OK) || !right && (f != nil || e != api.ErrConfig) {
						t.Fatalf("P14: New(%+v) = %v, %d", c, f, e)
					}
				}
			}
		}
	}
}

// begun is a front with features, entries, requests that wait and a flight that a worker has.
func begun(t *testing.T) *front.Front {
	t.Helper()
	f := made(t, api.Config{Queue: 6, Workers: 2, Wait: 9, Cache: 60, Chunk: 2})
	writes(t, f, 1, put(strip(1)), put(inside(2, k10)), put(inside(3, k20)), put(inside(4, k20)))
	painted(t, f, k00)
	arrives(t, f, k20, "", 1)
	arrives(t, f, root, "", 2)
	works(t, f, 0)
	works(t, f, 0)
	writes(t, f, 2, put(inside(3, k30)))
	arrives(t, f, k30, "", 3)
	return f
}

// TestAnyPaths: P1 and P15, paths and tags of any bytes: a number, and at most one reply.
func TestAnyPaths(t *testing.T) {
	f := begun(t)
	texts := []string{"", "/", "@", "\x00", "\xff\xfe", "é", strings.Repeat("/land", 50000), strings.Repeat("9", 300000), "/land/" + strings.Repeat("1", 100) + "/0/0.tile", "/land/22/-1/0.tile", "/land/22/+1/0.tile", "/land/22/1e3/0.tile", "/land/18446744073709551616/0/0.tile", path(k00), tag(k00, 1), tag(k20, 2), tag(k00, 101)}
	for i := 0; i < 256; i++ {
		texts = append(texts, string([]byte{byte(i)}), path(k00)[:3]+string([]byte{byte(i)})+path(k00)[4:], path(k00)+string([]byte{byte(i)}))
	}
	source := rand.New(rand.NewSource(3))
	for i := 0; i < 200; i++ {
		b := make([]byte, source.Intn(40))
		source.Read(b)
		texts = append(texts, string(b))
	}
	who := 4
	for _, a := range texts {
		for _, with := range []string{"", texts[source.Intn(len(texts))], tag(k00, 1)} {
			n, replies := f.Arrive(a, with)
			if n != who || len(replies) > 1 {
				t.Fatalf("P1: Arrive(%.60q, %.60q) = %d, %+v, want %d", a, with, n, replies, who)
			}
			who++
			for _, r := range replies {
				if r.Who != n || r.Status >= 400 && (r.Body != "" || r.Tag != "") || a != path(k00) && r.Status < 400 {
					t.Fatalf("P1: Arrive(%.60q, %.60q) = %+v", a, with, r)
				}
			}
		}
	}
	if look := f.Look(); look.Waiting != 3 || look.Arrived != who {
		t.Errorf("P1: %+v behind %d requests", look, who)
	}
}

// TestAnyTags: P1 and P15, a tag of any bytes but the present one is none.
func TestAnyTags(t *testing.T) {
	f := begun(t)
	present := tag(k00, 1)
	who := 4
	for at := 0; at < len(present); at++ {
		for i := 0; i < 256; i++ {
			for _, with := range []string{present[:at] + string([]byte{byte(i)}) + present[at+1:], present[:at] + string([]byte{byte(i)}) + present[at:], present[:at]} {
				if with == present {
					arrives(t, f, k00, with, who, same(who, k00, 1))
				} else {
					arrives(t, f, k00, with, who, fine(who, k00, sevens, 1))
				}
				who++
			}
		}
	}
}

// TestAnyWorker: P1 and P16, numbers of any size.
func TestAnyWorker(t *testing.T) {
	f := begun(t)
	for _, worker := range numbers {
		if worker != 0 && worker != 1 {
			idles(t, f, worker)
		}
	}
}

// setField sets one of the numbers of a feature.
func setField(f *api.Feature, field int, n int) {
	*[]*int{&f.Id, &f.Layer, &f.Kind, &f.Ink, &f.Rank, &f.From, &f.Size, &f.N, &f.Xs[0], &f.Xs[2], &f.Xs[7], &f.Ys[0], &f.Ys[3], &f.Ys[7]}[field] = n
}

// TestAnyEdits: P1 and P17, numbers of any size in each field of an edit, in batches of any length.
func TestAnyEdits(t *testing.T) {
	for field := 0; field < 14; field++ {
		f, h := made(t, wide), newHistory()
		for _, n := range numbers {
			for _, op := range []int{0, 1, 2, -1, math.MinInt, math.MaxInt} {
				for _, g := range []api.Feature{strip(1), {Id: 2, Kind: api.Dot, Ink: 1, Size: 1, N: 1}} {
					setField(&g, field, n)
					batch := []api.Edit{put(strip(9)), {Op: op, F: g}}
					v, e := f.Write(batch)
					want, wantError := h.apply(batch)
					if v != want || e != wantError {
						t.Fatalf("P17: Write(%+v) = %d, %d, want %d, %d", batch, v, e, want, wantError)
					}
				}
			}
		}
		looks(t, f, api.Look{Version: h.version()})
	}
	for _, length := range []int{0, 1, 2, 7, 8, 9, 10, 40, 41, 100, 1000} {
		f := begun(t)
		batch := make([]api.Edit, length)
		for i := range batch {
			batch[i] = put(strip(1))
		}
		if length >= 1 && length <= 8 {
			writes(t, f, 3, batch...)
		} else {
			refuses(t, f, api.ErrBatch, batch...)
		}
	}
	f := made(t, small)
	refuses(t, f, api.ErrBatch, []api.Edit{}...)
	if n, e := f.Write(nil); n != 0 || e != api.ErrBatch {
		t.Errorf("P17: Write(nil) = %d, %d", n, e)
	}
}

// TestBatchStays: P2, neither a batch nor the spare room behind it is written into, whether it is refused or not.
func TestBatchStays(t *testing.T) {
	for _, last := range []api.Edit{put(inside(9, k11)), drop(2), drop(77), {Op: 3}, put(api.Feature{})} {
		for length := 0; length <= 9; length++ {
			f := begun(t)
			room := make([]api.Edit, 20)
			for i := range room {
				room[i] = put(inside(3, tile(i, 5)))
			}
			if length > 0 {
				room[length-1] = last
			}
			if length > 2 {
				room[0] = drop(3)
			}
			before := append([]api.Edit{}, room...)
			f.Write(room[:length])
			works(t, f, 1)
			f.Work(0)
			f.Write(room[:length])
			f.Tick()
			if !reflect.DeepEqual(room, before) {
				t.Errorf("P2: Write of %d edits made of\n%+v\nthis:\n%+v", length, before, room)
			}
		}
	}
}

// TestBatchIsNotKept: P2, what the caller writes into a batch later changes nothing.
func TestBatchIsNotKept(t *testing.T) {
	f := withCache(t, 100)
	room := make([]api.Edit, 20)
	batch := append(room[:0], put(strip(1)), put(inside(2, k10)), put(inside(2, k11)))
	writes(t, f, 1, batch...)
	if n, e := f.Write(batch); n != 2 || e != api.OK {
		t.Fatalf("P17: Write = %d, %d", n, e)
	}
	arrives(t, f, k00, "", 0)
	works(t, f, 0)
	for i := range room {
		room[i] = put(inside(1+i, k01))
	}
	works(t, f, 0, fine(0, k00, sevens, 2))
	arrives(t, f, k11, "", 1, fine(1, k11, body(t, k11, inside(2, k11)), 2))
	arrives(t, f, k10, "", 2, fine(2, k10, noughts, 2))
	writes(t, f, 3, drop(1))
	if n := f.Look().Entries; n != 3 {
		t.Errorf("P17: %d entries, want 3", n)
	}
	refuses(t, f, api.ErrNone, drop(3))
}

// scrawl writes into a list of replies that came out, and into its spare room.
func scrawl(replies []api.Reply) {
	replies = replies[:cap(replies)]
	for i := range replies {
		replies[i] = api.Reply{Who: -7, Status: 7, Body: "scrawled", Tag: "over"}
	}
}

// deed is a call, with what it answered.
type deed struct {
	number  int
	e       api.Errno
	replies []api.Reply
	flights []api.Flight
	look    api.Look
}

// someDeed makes the same call of several fronts.
func someDeed(source *rand.Rand, h *history, c api.Config, fronts ...*front.Front) []deed {
	var deeds []deed
	kind, k := source.Intn(20), someKey(source)
	to, with, worker, batch := somePath(source, k), someTag(source, h, k), source.Intn(c.Workers), someBatch(source, h)
	for _, f := range fronts {
		d := deed{}
		switch {
		case kind < 7:
			d.number, d.replies = f.Arrive(to, with)
		case kind < 16:
			d.replies = f.Work(worker)
		case kind < 18:
			d.number, d.e = f.Write(batch)
		default:
			d.replies = f.Tick()
		}
		d.flights, d.look = f.Flights(), f.Look()
		deeds = append(deeds, d)
	}
	if kind == 16 || kind == 17 {
		h.apply(batch)
	}
	return deeds
}

// TestListsAreTheCallers: P2, what is written into lists that came out, or into their spare room, changes nothing that comes out later: of two fronts with the same calls one has all its lists scrawled over.
func TestListsAreTheCallers(t *testing.T) {
	for seed := int64(0); seed < 20; seed++ {
		source := rand.New(rand.NewSource(seed))
		c := someConfig(source)
		clean, marred, h := made(t, c), made(t, c), newHistory()
		for i := 0; i < 400; i++ {
			deeds := someDeed(source, h, c, clean, marred)
			a, b := deeds[0], deeds[1]
			if a.number != b.number || a.e != b.e || a.look != b.look || !alike(a.replies, b.replies) || !reflect.DeepEqual(a.flights, b.flights) {
				t.Fatalf("P2: a front answers\n%+v\nand one whose lists were written into\n%+v", a, b)
			}
			scrawl(b.replies)
			flights := b.flights[:cap(b.flights)]
			for i := range flights {
				flights[i] = api.Flight{Key: api.Key{Z: 99}, Worker: 99, Reads: 99, Left: 99, Waiting: 99}
			}
		}
	}
}

// TestListsStay: P2, no later call changes a list that came out, nor its spare room.
func TestListsStay(t *testing.T) {
	for seed := int64(50); seed < 60; seed++ {
		source := rand.New(rand.NewSource(seed))
		c := someConfig(source)
		f, h := made(t, c), newHistory()
		var lists, listsThen [][]api.Reply
		var flights, flightsThen [][]api.Flight
		for i := 0; i < 500; i++ {
			d := someDeed(source, h, c, f)[0]
			spare := d.replies[:cap(d.replies)]
			for j := len(d.replies); j < len(spare); j++ {
				spare[j] = api.Reply{Who: i, Status: j}
			}
			lists = append(lists, spare)
			listsThen = append(listsThen, append([]api.Reply{}, spare...))
			more := d.flights[:cap(d.flights)]
			for j := len(d.flights); j < len(more); j++ {
				more[j] = api.Flight{Worker: i, Left: j}
			}
			flights = append(flights, more)
			flightsThen = append(flightsThen, append([]api.Flight{}, more...))
		}
		for i := range lists {
			if !alike(lists[i], listsThen[i]) {
				t.Fatalf("P2: a list of replies was changed: %+v, at first %+v", lists[i], listsThen[i])
			}
			if len(flights[i]) > 0 && !reflect.DeepEqual(flights[i], flightsThen[i]) {
				t.Fatalf("P2: a list of Flights was changed: %+v, at first %+v", flights[i], flightsThen[i])
			}
		}
	}
}

// TestSameCalls: P2, a front's answers hang on its own calls alone: beside others that do other things it answers as before.
func TestSameCalls(t *testing.T) {
	var first []deed
	for round := 0; round < 3; round++ {
		source := rand.New(rand.NewSource(9))
		c := someConfig(source)
		f, h := made(t, c), newHistory()
		other, otherHistory := made(t, wide), newHistory()
		noise := rand.New(rand.NewSource(int64(round)))
		for i := 0; i < 600; i++ {
			d := someDeed(source, h, c, f)[0]
			for n := 0; n < round; n++ {
				someDeed(noise, otherHistory, wide, other)
			}
			if round == 0 {
				first = append(first, d)
			} else if !alike(d.replies, first[i].replies) || d.look != first[i].look || d.number != first[i].number || d.e != first[i].e {
				t.Fatalf("P2: call %d answers %+v, and alone it was %+v", i, d, first[i])
			}
		}
	}
}
