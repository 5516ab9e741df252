package shape_test

import (
	"math/rand"
	"testing"

	"atlas/api"
	"atlas/shape"
)

// TestHostile: P1, numbers of any size in every field of a feature and of a key, zooms and points of any size: every call ends, and answers as the document asks.
func TestHostile(t *testing.T) {
	source := rand.New(rand.NewSource(12))
	numbers := append([]int{0, 1, 2, 3, 8, 22, 23, 1000, world / 2, world}, extremes...)
	some := func() int { return numbers[source.Intn(len(numbers))] }
	for i := 0; i < 20000; i++ {
		k := someKey(source, source.Intn(world+1), source.Intn(world+1))
		f := inTile(source, k)
		x, y := centreModel(k, source.Intn(64))
		for n := source.Intn(3); n > 0; n-- {
			switch source.Intn(6) {
			case 0:
				*fields[source.Intn(len(fields))].of(&f) = some()
			case 1:
				f.Xs[source.Intn(8)] = some()
			case 2:
				f.Ys[source.Intn(8)] = some()
			case 3:
				x = some()
			case 4:
				y = some()
			case 5:
				*[]*int{&k.Layer, &k.Z, &k.X, &k.Y}[source.Intn(4)] = some()
			}
		}
		compare(t, f, k, x, y)
	}
}

// TestHandedIn: P2, the list that is handed in and the spare room behind it stay as they were.
func TestHandedIn(t *testing.T) {
	source := rand.New(rand.NewSource(13))
	for i := 0; i < 500; i++ {
		k := someKey(source, source.Intn(world+1), source.Intn(world+1))
		room := make([]api.Feature, 50)
		for n := range room {
			room[n] = inTile(source, k)
		}
		if i%5 == 0 {
			room[source.Intn(50)].Ink = 0
		}
		if i%7 == 0 {
			k.Z = 23
		}
		before := append([]api.Feature{}, room...)
		shape.Paint(room[:i%43], k)
		for n := range room {
			if room[n] != before[n] {
				t.Fatalf("P2: Paint of %d features, %+v, wrote into the list: %d was %+v and is %+v", i%43, k, n, before[n], room[n])
			}
		}
	}
}

// answers of all four calls to one set of arguments.
type answers struct {
	right   api.Errno
	in, on  bool
	picture string
	e       api.Errno
}

func asked(fs []api.Feature, k api.Key, x int, y int) answers {
	var a answers
	if len(fs) > 0 {
		a.right = shape.Check(fs[0])
		a.in = shape.Covers(fs[0], k.Z, x, y)
		a.on = shape.Touches(fs[0], k)
	}
	a.picture, a.e = shape.Paint(fs, k)
	return a
}

// TestSameAgain: P2, the answers hang on the arguments alone, whatever was called between, and whatever became of the lists.
func TestSameAgain(t *testing.T) {
	source := rand.New(rand.NewSource(14))
	var lists [][]api.Feature
	var keys []api.Key
	var first []answers
	for i := 0; i < 300; i++ {
		k := someKey(source, source.Intn(world+1), source.Intn(world+1))
		var fs []api.Feature
		for n := i % 43; n > 0; n-- {
			fs = append(fs, inTile(source, k))
		}
		if i%4 == 3 && len(fs) > 0 {
			fs[source.Intn(len(fs))].N = 9
		}
		if i%11 == 10 {
			k.X = -1
		}
		lists, keys = append(lists, fs), append(keys, k)
		used := append([]api.Feature{}, fs...)
		x, y := centreModel(k, i%64)
		first = append(first, asked(used, k, x, y))
		clear(used)
	}
	for round := 0; round < 3; round++ {
		for i := len(keys) - 1; i >= 0; i-- {
			x, y := centreModel(keys[i], i%64)
			if again := asked(lists[i], keys[i], x, y); again != first[i] {
				t.Errorf("P2: %+v, %+v: at first %+v, then %+v", lists[i], keys[i], first[i], again)
			}
		}
	}
}
