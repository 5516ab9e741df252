package wire_test

import (
	"math"
	"math/rand"
	"regexp"
	"strconv"
	"strings"
	"testing"

	"atlas/api"
	"atlas/wire"
)

// form is the form of P3, told anew.
var form = regexp.MustCompile(`\A/([a-z]{1,8})/(0|[1-9][0-9]{0,8})/(0|[1-9][0-9]{0,8})/(0|[1-9][0-9]{0,8})\.tile\z`)

// parsed is what the document asks of Parse.
func parsed(path string) (api.Key, api.Errno) {
	p := form.FindStringSubmatch(path)
	if p == nil {
		return api.Key{}, api.ErrPath
	}
	layer, known := map[string]int{"land": 0, "water": 1, "road": 2, "mark": 3}[p[1]]
	z, _ := strconv.Atoi(p[2])
	x, _ := strconv.Atoi(p[3])
	y, _ := strconv.Atoi(p[4])
	switch {
	case !known:
		return api.Key{}, api.ErrLayer
	case z > 22:
		return api.Key{}, api.ErrZoom
	case x >= 1<<z || y >= 1<<z:
		return api.Key{}, api.ErrPlace
	}
	return api.Key{Layer: layer, Z: z, X: x, Y: y}, api.OK
}

func wantParse(t *testing.T, path string, k api.Key, e api.Errno) {
	t.Helper()
	if gotK, gotE := wire.Parse(path); gotK != k || gotE != e {
		t.Errorf("Parse(%.60q) = %+v, %d, want %+v, %d", path, gotK, gotE, k, e)
	}
}

// somePaths are paths of the right form, of keys and of none.
var somePaths = []string{
	"/land/0/0/0.tile", "/water/1/1/0.tile", "/road/3/5/2.tile", "/mark/22/4194303/0.tile", "/mark/22/4194304/0.tile",
	"/mark/23/0/0.tile", "/sea/23/0/0.tile", "/land/10/1000/20.tile", "/a/123456789/123456789/123456789.tile", "/abcdefgh/0/0/0.tile",
}

// TestParseKeys: P3, ordinary paths, and the edges of the zooms and places.
func TestParseKeys(t *testing.T) {
	wantParse(t, "/land/0/0/0.tile", api.Key{}, api.OK)
	wantParse(t, "/water/1/0/1.tile", api.Key{Layer: api.Water, Z: 1, Y: 1}, api.OK)
	wantParse(t, "/road/10/1000/20.tile", api.Key{Layer: api.Road, Z: 10, X: 1000, Y: 20}, api.OK)
	wantParse(t, "/mark/22/4194303/0.tile", api.Key{Layer: api.Mark, Z: 22, X: 4194303}, api.OK)
	wantParse(t, "/mark/22/4194303/4194303.tile", api.Key{Layer: api.Mark, Z: 22, X: 4194303, Y: 4194303}, api.OK)
}

// TestParseForm: P3, each part of the form.
func TestParseForm(t *testing.T) {
	for _, path := range []string{
		"", "/", "//", "////", "/////", ".", ".tile", "/land", "/land/0/0/0", "/land/0/0/0.", "/land/0/0/0tile", "tile",
		// the name: its letters and its length
		"//0/0/0.tile", "/abcdefghi/0/0/0.tile", "/Land/0/0/0.tile", "/lanD/0/0/0.tile", "/l4nd/0/0/0.tile", "/la-d/0/0/0.tile", "/la d/0/0/0.tile", "/`/0/0/0.tile", "/{/0/0/0.tile", "/länd/0/0/0.tile", "/land\x00/0/0/0.tile", "/\xff/0/0/0.tile",
		// how many digits there are
		"/land//0/0.tile", "/land/0//0.tile", "/land/0/0/.tile", "/land/1234567890/0/0.tile", "/land/0/1234567890/0.tile", "/land/0/0/1234567890.tile",
		// a 0 in front
		"/land/00/0/0.tile", "/land/0/00/0.tile", "/land/0/0/00.tile", "/land/01/0/0.tile", "/land/1/01/0.tile", "/land/1/0/01.tile", "/land/000000001/0/0.tile", "/land/0000000000/0/0.tile",
		// what is no digit
		"/land/-1/0/0.tile", "/land/+1/0/0.tile", "/land/0/-0/0.tile", "/land/0/0x0/0.tile", "/land/a/0/0.tile", "/land/1/1:/0.tile", "/land/1//./0.tile", "/land/1/0/1_0.tile", "/land/1/0/1e0.tile", "/land/1 /0/0.tile", "/land/1/0/٣.tile",
		// the slashes
		"land/0/0/0.tile", "//land/0/0/0.tile", "/land//0/0/0.tile", "/land/0/0/0/.tile", "/land/0/0/0/0.tile", "/land/0/0.tile", "/land/0.tile", "/land.tile", "/land\\0/0/0.tile", "/land/0/0.0.tile", "/land/0.0/0.tile", "/land.0/0/0.tile",
		// the ending
		"/land/0/0/0.Tile", "/land/0/0/0.TILE", "/land/0/0/0.til", "/land/0/0/0.tilf", "/land/0/0/0.tiles", "/land/0/0/0..tile", "/land/0/0/0/tile", "/land/0/0/0.tile.tile",
		// what stands ahead of it or behind it
		" /land/0/0/0.tile", "a/land/0/0/0.tile", "\x00/land/0/0/0.tile", "/land/0/0/0.tile ", "/land/0/0/0.tile\n", "/land/0/0/0.tile\x00", "/land/0/0/0.tile/", "/land/0/0/0.tile?a", "/land/0/0/0.tile@0", "/land/0/0/0.tile/land/0/0/0.tile", "\n/land/0/0/0.tile",
	} {
		wantParse(t, path, api.Key{}, api.ErrPath)
	}
}

// TestParseOrder: P3, ErrPath ahead of ErrLayer ahead of ErrZoom ahead of ErrPlace.
func TestParseOrder(t *testing.T) {
	for _, path := range []string{"/sea/0/0/00.tile", "/sea/23/0/0", "/sea/99/1/1.tile ", "/land/23/0/00.tile", "/land/0/1/1.til", "/land/0/01/1.tile"} {
		wantParse(t, path, api.Key{}, api.ErrPath)
	}
	for _, path := range []string{"/sea/0/0/0.tile", "/sea/23/0/0.tile", "/sea/0/1/1.tile", "/abcdefgh/999999999/999999999/999999999.tile", "/a/0/0/0.tile", "/lan/0/0/0.tile", "/lands/0/0/0.tile", "/and/0/0/0.tile", "/waters/0/0/0.tile", "/roa/0/0/0.tile", "/marks/0/0/0.tile"} {
		wantParse(t, path, api.Key{}, api.ErrLayer)
	}
	for _, path := range []string{"/land/23/0/0.tile", "/mark/23/8388608/0.tile", "/road/64/0/0.tile", "/water/999999999/999999999/999999999.tile"} {
		wantParse(t, path, api.Key{}, api.ErrZoom)
	}
	for _, path := range []string{"/land/0/1/0.tile", "/land/0/0/1.tile", "/water/3/8/0.tile", "/road/3/0/8.tile", "/mark/22/4194304/0.tile", "/mark/22/0/4194304.tile", "/mark/22/999999999/999999999.tile"} {
		wantParse(t, path, api.Key{}, api.ErrPlace)
	}
}

// TestParseNearby: P3, all that is one byte away from a path.
func TestParseNearby(t *testing.T) {
	for _, path := range somePaths {
		for _, near := range nearby(path) {
			k, e := parsed(near)
			wantParse(t, near, k, e)
		}
	}
}

// TestParseAny: P1 and P3, strings of any bytes and of any length.
func TestParseAny(t *testing.T) {
	source := rand.New(rand.NewSource(3))
	pieces := []string{"/", "land", "water", "road", "mark", "sea", "0", "1", "22", "23", "4194303", "00", ".tile", ".", "", "\xff", "a"}
	for i := 0; i < 50000; i++ {
		var path strings.Builder
		for n := source.Intn(12); n > 0; n-- {
			path.WriteString(pieces[source.Intn(len(pieces))])
		}
		k, e := parsed(path.String())
		wantParse(t, path.String(), k, e)
	}
	for _, piece := range []string{"/", "0", "1", "a", ".", "\x00", "\xff", "é", ".tile", "/land/0/0/0.tile"} {
		long := strings.Repeat(piece, 300000)
		for _, path := range []string{long, "/" + long, "/" + long + "/0/0/0.tile", "/land/" + long + "/0/0.tile", "/land/0/" + long + "/0.tile", "/land/0/0/" + long + ".tile", "/land/0/0/0" + long, "/land/0/0/0.tile" + long, long + "/land/0/0/0.tile"} {
			wantParse(t, path, api.Key{}, api.ErrPath)
		}
	}
}

// someKeys are keys of every layer and zoom, from the corners and from between.
func someKeys() []api.Key {
	source := rand.New(rand.NewSource(4))
	var keys []api.Key
	for layer := 0; layer < api.Layers; layer++ {
		for z := 0; z <= api.MaxZoom; z++ {
			last := 1<<z - 1
			keys = append(keys, api.Key{Layer: layer, Z: z}, api.Key{Layer: layer, Z: z, X: last}, api.Key{Layer: layer, Z: z, Y: last}, api.Key{Layer: layer, Z: z, X: last, Y: last})
			for n := 0; n < 10; n++ {
				keys = append(keys, api.Key{Layer: layer, Z: z, X: source.Intn(last + 1), Y: source.Intn(last + 1)})
			}
		}
	}
	return keys
}

// wrongKeys are keys with an error, many with several.
var wrongKeys = []struct {
	k api.Key
	e api.Errno
}{
	{api.Key{Layer: 4}, api.ErrLayer}, {api.Key{Layer: -1}, api.ErrLayer}, {api.Key{Layer: -1, Z: -1, X: -1, Y: -1}, api.ErrLayer}, {api.Key{Layer: 4, Z: 23}, api.ErrLayer}, {api.Key{Layer: 4, X: 1}, api.ErrLayer}, {api.Key{Layer: math.MaxInt}, api.ErrLayer}, {api.Key{Layer: math.MinInt}, api.ErrLayer},
	{api.Key{Z: 23}, api.ErrZoom}, {api.Key{Z: -1}, api.ErrZoom}, {api.Key{Z: 23, X: -1}, api.ErrZoom}, {api.Key{Z: -1, Y: 1}, api.ErrZoom}, {api.Key{Z: math.MaxInt}, api.ErrZoom}, {api.Key{Z: math.MinInt}, api.ErrZoom},
	{api.Key{X: 1}, api.ErrPlace}, {api.Key{Y: 1}, api.ErrPlace}, {api.Key{X: -1}, api.ErrPlace}, {api.Key{Y: -1}, api.ErrPlace}, {api.Key{Z: 22, X: 4194304}, api.ErrPlace}, {api.Key{Z: 22, Y: 4194304}, api.ErrPlace}, {api.Key{Z: 22, X: math.MaxInt}, api.ErrPlace}, {api.Key{Z: 22, Y: math.MinInt}, api.ErrPlace},
}

// TestPrint: P4, ordinary keys and wrong ones.
func TestPrint(t *testing.T) {
	for _, c := range []struct {
		k    api.Key
		path string
	}{
		{api.Key{}, "/land/0/0/0.tile"},
		{api.Key{Layer: api.Water, Z: 10, X: 1000, Y: 20}, "/water/10/1000/20.tile"},
		{api.Key{Layer: api.Road, Z: 3, X: 5, Y: 2}, "/road/3/5/2.tile"},
		{api.Key{Layer: api.Mark, Z: 22, X: 4194303}, "/mark/22/4194303/0.tile"},
	} {
		if path, e := wire.Print(c.k); path != c.path || e != api.OK {
			t.Errorf("Print(%+v) = %q, %d, want %q", c.k, path, e, c.path)
		}
	}
	for _, c := range wrongKeys {
		if path, e := wire.Print(c.k); path != "" || e != c.e {
			t.Errorf("Print(%+v) = %q, %d, want error %d", c.k, path, e, c.e)
		}
	}
}

// TestPrintAndParse: P4, each is the other's way back.
func TestPrintAndParse(t *testing.T) {
	for _, k := range someKeys() {
		path, e := wire.Print(k)
		if e != api.OK {
			t.Fatalf("Print(%+v): %d", k, e)
		}
		wantParse(t, path, k, api.OK)
	}
	for _, base := range somePaths {
		for _, path := range nearby(base) {
			k, e := wire.Parse(path)
			if e != api.OK {
				continue
			}
			if again, e := wire.Print(k); again != path || e != api.OK {
				t.Errorf("Parse(%q) = %+v, but Print gives %q, %d", path, k, again, e)
			}
		}
	}
}

// TestTag: P4, each version that there is, and those below and above.
func TestTag(t *testing.T) {
	for _, k := range []api.Key{{}, {Layer: api.Land, Z: 3, X: 5, Y: 2}, {Layer: api.Mark, Z: 22, X: 4194303, Y: 1}} {
		path, _ := wire.Print(k)
		for version := 0; version <= 100; version++ {
			want := path + "@" + strconv.Itoa(version)
			if tag, e := wire.Tag(k, version); tag != want || e != api.OK {
				t.Errorf("Tag(%+v, %d) = %q, %d, want %q", k, version, tag, e, want)
			}
		}
		for _, version := range []int{-1, -100, 101, 256, math.MinInt, math.MaxInt} {
			if tag, e := wire.Tag(k, version); tag != "" || e != api.ErrVersion {
				t.Errorf("Tag(%+v, %d) = %q, %d", k, version, tag, e)
			}
		}
	}
	if tag, e := wire.Tag(api.Key{Z: 3, X: 5, Y: 2}, 17); tag != "/land/3/5/2.tile@17" || e != api.OK {
		t.Errorf("the document's tag = %q, %d", tag, e)
	}
}

// TestTagOrder: P4, the error of the key ahead of ErrVersion.
func TestTagOrder(t *testing.T) {
	for _, c := range wrongKeys {
		for _, version := range []int{-1, 0, 100, 101} {
			if tag, e := wire.Tag(c.k, version); tag != "" || e != c.e {
				t.Errorf("Tag(%+v, %d) = %q, %d, want error %d", c.k, version, tag, e, c.e)
			}
		}
	}
}
