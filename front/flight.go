package front

import "atlas/api"

// flight is one that a worker has.
type flight struct {
	block api.Key
	reads int
	left  int
	read  []api.Feature // those of the steps done, by rising Id
}

// hasFlight tells whether there is a flight of a block.
func (f *Front) hasFlight(block api.Key) bool {
	for i := 0; i < len(f.line); i++ {
		if f.line[i] == block {
			return true
		}
	}
	for i := 0; i < len(f.workers); i++ {
		taken := f.workers[i]
		if taken != nil && taken.block == block {
			return true
		}
	}
	return false
}

// take gives the flight at the head of the line to a worker, nil if there is
// none.
func (f *Front) take() *flight {
	if len(f.line) == 0 {
		return nil
	}
	taken := &flight{block: f.line[0]}
	f.line = f.line[1:]
	f.started++
	taken.reads = f.features.Version()
	// This is not refused: the newest version is held, and a store has more
	// pins than a front may have workers.
	f.features.Pin(taken.reads)
	taken.left = f.steps(taken.reads)
	return taken
}

// steps tells in how many steps a version is read: one, if it has no feature.
func (f *Front) steps(version int) int {
	n := 0
	chunk, e := f.features.Read(version, 0, f.chunk)
	for e == api.OK && len(chunk) > 0 {
		n++
		after := lastId(chunk)
		chunk, e = f.features.Read(version, after, f.chunk)
	}
	if n == 0 {
		return 1
	}
	return n
}

// lastId gives the Id of the last of some features, 0 if there is none.
func lastId(fs []api.Feature) int {
	if len(fs) == 0 {
		return 0
	}
	return fs[len(fs)-1].Id
}

// step reads the next chunk of features.
func (f *Front) step(taken *flight) {
	after := lastId(taken.read)
	chunk, e := f.features.Read(taken.reads, after, f.chunk)
	if e == api.OK {
		taken.read = append(taken.read, chunk...)
	}
	taken.left--
}

// finish does what is to be done when all features of a flight are read.
func (f *Front) finish(taken *flight) []api.Reply {
	tiles := f.paint(taken)
	f.features.Unpin(taken.reads)
	replies := f.answerFine(tiles, taken.reads)
	f.layUnchanged(tiles, taken.reads)
	if f.countFor(taken.block) > 0 {
		f.line = append(f.line, taken.block)
	}
	return replies
}

// endForsaken ends the flights in the line for which nobody waits.
func (f *Front) endForsaken() {
	left := []api.Key{}
	for i := 0; i < len(f.line); i++ {
		if f.countFor(f.line[i]) > 0 {
			left = append(left, f.line[i])
		}
	}
	f.line = left
}
