package wire_test

import (
	"encoding/hex"
	"math/rand"
	"strings"
	"testing"

	"atlas/api"
	"atlas/wire"
)

// run is a byte of a body: length pixels of one ink.
func run(length int, ink int) string {
	return string([]byte{byte(16*(length-1) + ink)})
}

// line is length pixels of one ink.
func line(length int, ink int) string {
	return strings.Repeat(string([]byte{byte(ink)}), length)
}

// closed puts the mark ahead of runs, and the check bytes of inks behind them.
func closed(runs string, inks string) string {
	first, second := 1, 64
	for i := range len(inks) {
		first += int(inks[i])
		second += (64 - i) * int(inks[i])
	}
	return "T" + runs + string([]byte{byte(first % 251), byte(second % 251)})
}

// packed is what the document asks of Pack, of a picture.
func packed(inks string) string {
	runs := ""
	for rest := inks; rest != ""; {
		same := len(rest) - len(strings.TrimLeft(rest, rest[:1]))
		length := min(same, 16)
		runs += run(length, int(rest[0]))
		rest = rest[length:]
	}
	return closed(runs, inks)
}

// somePictures have runs of every length, short ones and long ones.
func somePictures() []string {
	var pictures []string
	for ink := 0; ink <= api.MaxInk; ink++ {
		pictures = append(pictures, line(64, ink))
	}
	for length := 1; length < 64; length++ {
		pictures = append(pictures, line(length, 9)+line(64-length, 0), line(length, 0)+line(64-length, 15))
	}
	source := rand.New(rand.NewSource(5))
	for i := 0; i < 300; i++ {
		most := 1 + source.Intn(30)
		inks := ""
		for len(inks) < 64 {
			inks += line(1+source.Intn(most), source.Intn(16))
		}
		pictures = append(pictures, inks[:64])
	}
	return pictures
}

func wantPack(t *testing.T, inks string, body string) {
	t.Helper()
	if got, e := wire.Pack(inks); got != body || e != api.OK {
		t.Errorf("Pack(%x) = %x, %d, want %x", inks, got, e, body)
	}
}

func wantNoBody(t *testing.T, body string) {
	t.Helper()
	if inks, e := wire.Unpack(body); inks != "" || e != api.ErrBody {
		t.Errorf("Unpack(%.80x) = %x, %d, want ErrBody", body, inks, e)
	}
}

// TestPackDocument: P5 and P6, the document's bodies.
func TestPackDocument(t *testing.T) {
	for _, c := range []struct{ inks, body string }{
		{line(64, 0), "54f0f0f0f00140"},
		{line(64, 3), "54f3f3f3f3c11d"},
		{line(1, 5) + line(63, 0), "5405f0f0f0e00685"},
		{line(63, 0) + line(1, 15), "54f0f0f0e00f104f"},
		{line(16, 15) + line(1, 10) + line(47, 0), "54ff0af0f0e00030"},
		{line(2, 7) + line(62, 0), "5417f0f0f0d00fc8"},
	} {
		body, err := hex.DecodeString(c.body)
		if err != nil {
			t.Fatal(err)
		}
		wantPack(t, c.inks, string(body))
		if inks, e := wire.Unpack(string(body)); inks != c.inks || e != api.OK {
			t.Errorf("Unpack(%x) = %x, %d, want %x", body, inks, e, c.inks)
		}
	}
}

// TestPackRuns: P5, runs of 16 and more pixels, and runs over the end of a line.
func TestPackRuns(t *testing.T) {
	for _, c := range []struct{ inks, runs string }{
		{line(15, 2) + line(49, 1), run(15, 2) + run(16, 1) + run(16, 1) + run(16, 1) + run(1, 1)},
		{line(16, 2) + line(48, 1), run(16, 2) + run(16, 1) + run(16, 1) + run(16, 1)},
		{line(17, 2) + line(47, 1), run(16, 2) + run(1, 2) + run(16, 1) + run(16, 1) + run(15, 1)},
		{line(32, 2) + line(32, 1), run(16, 2) + run(16, 2) + run(16, 1) + run(16, 1)},
		{line(33, 2) + line(31, 1), run(16, 2) + run(16, 2) + run(1, 2) + run(16, 1) + run(15, 1)},
		{line(5, 1) + line(6, 2) + line(53, 0), run(5, 1) + run(6, 2) + run(16, 0) + run(16, 0) + run(16, 0) + run(5, 0)},
		{line(7, 0) + line(2, 4) + line(55, 0), run(7, 0) + run(2, 4) + run(16, 0) + run(16, 0) + run(16, 0) + run(7, 0)},
		{strings.Repeat(line(8, 1)+line(8, 2), 4), strings.Repeat(run(8, 1)+run(8, 2), 4)},
		{strings.Repeat(line(1, 15)+line(1, 0), 32), strings.Repeat(run(1, 15)+run(1, 0), 32)},
	} {
		wantPack(t, c.inks, closed(c.runs, c.inks))
	}
}

// TestPackMany: P5, all kinds of pictures; a body has 7 to 67 bytes.
func TestPackMany(t *testing.T) {
	for _, inks := range somePictures() {
		wantPack(t, inks, packed(inks))
		body, _ := wire.Pack(inks)
		if len(body) < 7 || len(body) > 67 {
			t.Errorf("Pack(%x) has %d bytes", inks, len(body))
		}
	}
	// the shortest and the longest
	if body, _ := wire.Pack(line(64, 15)); len(body) != 7 {
		t.Errorf("one ink: %d bytes", len(body))
	}
	if body, _ := wire.Pack(strings.Repeat("\x0e\x0f", 32)); len(body) != 67 {
		t.Errorf("no two pixels alike: %d bytes", len(body))
	}
}

// TestPackNone: P1 and P5, strings that are no picture, by length and by ink.
func TestPackNone(t *testing.T) {
	wrong := []string{"", line(1, 0), line(7, 1), line(63, 0), line(65, 0), line(128, 3), line(1000000, 1), strings.Repeat("0", 64), line(63, 0) + "\x10", "\x10" + line(63, 0), strings.Repeat("é", 32), line(65, 16), line(63, 255)}
	for place := 0; place < 64; place++ {
		for ink := 16; ink < 256; ink++ {
			wrong = append(wrong, line(place, 1)+line(1, ink)+line(63-place, 2))
		}
	}
	for _, inks := range wrong {
		if body, e := wire.Pack(inks); body != "" || e != api.ErrInks {
			t.Errorf("Pack(%.80x) = %x, %d, want ErrInks", inks, body, e)
		}
	}
}

// TestUnpackPacked: P6, every body that Pack gives comes back as its picture.
func TestUnpackPacked(t *testing.T) {
	for _, inks := range somePictures() {
		body, e := wire.Pack(inks)
		if e != api.OK {
			t.Fatalf("Pack(%x): %d", inks, e)
		}
		if again, e := wire.Unpack(body); again != inks || e != api.OK {
			t.Errorf("Unpack(%x) = %x, %d, want %x", body, again, e, inks)
		}
	}
}

// TestUnpackNearby: P6, a byte that is another, one that is left out, one more.
func TestUnpackNearby(t *testing.T) {
	for i, inks := range somePictures() {
		if i%9 != 0 {
			continue
		}
		body := packed(inks)
		for _, near := range nearby(body) {
			if near != body {
				wantNoBody(t, near)
			}
		}
	}
}

// TestUnpackLongerRuns: P6, runs that could be longer.
func TestUnpackLongerRuns(t *testing.T) {
	wantNoBody(t, "\x54\xf0\xf0\xf0\xe0\x00\x01\x40")
	for _, inks := range somePictures() {
		body := packed(inks)
		runs := body[1 : len(body)-2]
		for i := range len(runs) {
			length, ink := int(runs[i]/16)+1, int(runs[i]%16)
			for part := 1; part < length; part++ {
				wantNoBody(t, closed(runs[:i]+run(part, ink)+run(length-part, ink)+runs[i+1:], inks))
			}
		}
	}
	// as many runs as there should be, but the short one stands ahead of the long one
	wantNoBody(t, closed(run(1, 2)+run(16, 2)+run(16, 0)+run(16, 0)+run(15, 0), line(17, 2)+line(47, 0)))
	wantNoBody(t, closed(run(15, 2)+run(2, 2)+run(16, 0)+run(16, 0)+run(15, 0), line(17, 2)+line(47, 0)))
}

// TestUnpackSums: P6, runs whose lengths don't add up to 64, with right check bytes.
func TestUnpackSums(t *testing.T) {
	for total := 0; total <= 1024; total++ {
		if total == 64 {
			continue
		}
		for ink := 0; ink <= 1; ink++ {
			whole := strings.Repeat(run(16, ink), total/16)
			if total%16 > 0 {
				whole += run(total%16, ink)
			}
			wantNoBody(t, closed(whole, line(total, ink)))
			// as if only the first 64 pixels were looked at
			wantNoBody(t, closed(whole, line(min(total, 64), ink)))
		}
	}
	wantNoBody(t, closed(strings.Repeat(run(16, 1)+run(16, 0), 32), strings.Repeat(line(16, 1)+line(16, 0), 2)))
	wantNoBody(t, closed(strings.Repeat(run(1, 1)+run(1, 0), 32)+run(1, 0), strings.Repeat(line(1, 1)+line(1, 0), 32)))
}

// TestUnpackChecks: P6, the mark and both check bytes, each of them wrong alone and together.
func TestUnpackChecks(t *testing.T) {
	runs := run(16, 15) + run(1, 10) + run(16, 0) + run(16, 0) + run(15, 0)
	for first := 0; first < 256; first++ {
		for second := 0; second < 256; second++ {
			body := "T" + runs + string([]byte{byte(first), byte(second)})
			if first == 0x00 && second == 0x30 {
				if _, e := wire.Unpack(body); e != api.OK {
					t.Errorf("Unpack(%x): %d", body, e)
				}
				continue
			}
			wantNoBody(t, body)
		}
	}
	for mark := 0; mark < 256; mark++ {
		if mark != 'T' {
			wantNoBody(t, string([]byte{byte(mark)})+runs+"\x00\x30")
		}
	}
}

// TestUnpackAny: P1 and P6, strings of any bytes and of any length.
func TestUnpackAny(t *testing.T) {
	source := rand.New(rand.NewSource(6))
	for i := 0; i < 100000; i++ {
		bytes := make([]byte, source.Intn(72))
		source.Read(bytes)
		if len(bytes) > 0 && i%2 == 0 {
			bytes[0] = 'T'
		}
		inks, e := wire.Unpack(string(bytes))
		if e == api.OK && packed(inks) != string(bytes) || e != api.OK && (e != api.ErrBody || inks != "") {
			t.Errorf("Unpack(%x) = %x, %d", bytes, inks, e)
		}
	}
	for length := 0; length < 100; length++ {
		wantNoBody(t, strings.Repeat("T", length))
		wantNoBody(t, strings.Repeat("\x00", length))
	}
	wantNoBody(t, strings.Repeat("T", 1000000))
	wantNoBody(t, strings.Repeat("\xff", 1000000))
}
