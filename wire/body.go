package wire

import "atlas/api"

const (
	letter  = 'T'            // what every body begins with
	shades  = api.MaxInk + 1 // a run's byte is its length less one times this, plus its ink
	maxRun  = 16
	divisor = 251
)

// isPicture tells whether inks is a picture.
func isPicture(inks string) bool {
	return len(inks) == api.Pixels && allWithin(inks, 0, api.MaxInk)
}

// runLength tells how long the run is that begins at pixel start. It is at
// least 1, so that whoever goes on by it comes to an end.
func runLength(inks string, start int) int {
	length := 1
	for length < maxRun && start+length < len(inks) && inks[start+length] == inks[start] {
		length++
	}
	return length
}

// checks gives the two check bytes of a picture.
func checks(inks string) (byte, byte) {
	first := 1
	second := api.Pixels
	for i := 0; i < len(inks); i++ {
		ink := int(inks[i])
		first += ink
		second += (api.Pixels - i) * ink
	}
	return byte(first % divisor), byte(second % divisor)
}

// spread lays out the pixels of runs, however many they are.
func spread(runs string) string {
	inks := []byte{}
	for i := 0; i < len(runs); i++ {
		length := int(runs[i]/shades) + 1
		for n := 0; n < length; n++ {
			inks = append(inks, runs[i]%shades)
		}
	}
	return string(inks)
}
