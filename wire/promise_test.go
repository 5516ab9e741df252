package wire_test

import (
	"strings"
	"testing"

	"atlas/api"
	"atlas/wire"
)

// nearby gives s itself, and all strings with one byte of it another, or left out, or one byte more.
func nearby(s string) []string {
	near := []string{s}
	for i := range len(s) + 1 {
		for b := range 256 {
			piece := string([]byte{byte(b)})
			near = append(near, s[:i]+piece+s[i:])
			if i < len(s) && piece != s[i:i+1] {
				near = append(near, s[:i]+piece+s[i+1:])
			}
		}
		if i < len(s) {
			near = append(near, s[:i]+s[i+1:])
		}
	}
	return near
}

// answers of all five calls to one set of arguments.
type answers struct {
	key                      api.Key
	path, tag, body, inks    string
	parse, print, tagged     api.Errno
	packError, unpackedError api.Errno
}

// asked calls all five.
func asked(text string, k api.Key, version int) answers {
	var a answers
	a.key, a.parse = wire.Parse(text)
	a.path, a.print = wire.Print(k)
	a.tag, a.tagged = wire.Tag(k, version)
	a.body, a.packError = wire.Pack(text)
	a.inks, a.unpackedError = wire.Unpack(text)
	return a
}

// someTexts are paths, pictures, bodies, and what is none of them.
func someTexts() []string {
	texts := append([]string{"", "/", "T", strings.Repeat("/", 5000), "/land/0/0/0.tiles"}, somePaths...)
	for i, inks := range somePictures() {
		if i%20 == 0 {
			texts = append(texts, inks, packed(inks), inks+"\x00", packed(inks)+"\x00")
		}
	}
	return texts
}

// TestSameAgain: P2, the answers hang on the arguments alone, whatever was called between.
func TestSameAgain(t *testing.T) {
	texts := someTexts()
	keys := someKeys()
	for _, c := range wrongKeys {
		keys = append(keys, c.k)
	}
	var first []answers
	for i, k := range keys {
		first = append(first, asked(texts[i%len(texts)], k, i%103-1))
	}
	for round := 0; round < 3; round++ {
		for i := len(keys) - 1; i >= 0; i-- {
			if again := asked(texts[i%len(texts)], keys[i], i%103-1); again != first[i] {
				t.Errorf("text %.60q, key %+v: at first %+v, then %+v", texts[i%len(texts)], keys[i], first[i], again)
			}
		}
	}
}

// TestErrorsLeaveZero: P1, with an error every other result is the zero value.
func TestErrorsLeaveZero(t *testing.T) {
	keys := someKeys()
	for _, c := range wrongKeys {
		keys = append(keys, c.k)
	}
	texts := someTexts()
	for _, text := range texts {
		for i, k := range keys {
			a := asked(text, k, i%103-1)
			if a.parse != api.OK && a.key != (api.Key{}) || a.print != api.OK && a.path != "" || a.tagged != api.OK && a.tag != "" || a.packError != api.OK && a.body != "" || a.unpackedError != api.OK && a.inks != "" {
				t.Fatalf("text %.60q, key %+v: %+v", text, k, a)
			}
		}
	}
}
