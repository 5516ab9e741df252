package front

import "atlas/api"

// request is one that waits. It waits for the flight of its key's block, of
// which there is just one, so that it need not name it.
type request struct {
	who   int
	key   api.Key
	asked int
	due   int
}

// refusal gives the status of a request whose path has an error.
func refusal(e api.Errno) int {
	if e == api.ErrPath {
		return api.Bad
	}
	return api.Missing
}

// atOnce gives the reply to a request that does not wait; false, if it waits.
func (f *Front) atOnce(k api.Key, tag string) (api.Reply, bool) {
	version := f.features.Version()
	present, e := f.tagAt(version, k)
	if e == api.OK && tag == present {
		return api.Reply{Status: api.Same, Tag: present}, true
	}
	t, found := find(f.cache.tiles, k)
	if found {
		f.cache.use(t)
		return api.Reply{Status: api.Fine, Body: t.body, Tag: t.tag}, true
	}
	if len(f.waiting) >= f.queue {
		return api.Reply{Status: api.Full}, true
	}
	return api.Reply{}, false
}

// join lets a request wait for the flight of its block, which begins if there
// is none.
func (f *Front) join(who int, k api.Key) {
	version := f.features.Version()
	f.waiting = append(f.waiting, request{who: who, key: k, asked: version, due: f.now + f.wait})
	block := blockOf(k)
	if !f.hasFlight(block) {
		f.line = append(f.line, block)
	}
}

// countFor tells how many requests wait for the flight of a block.
func (f *Front) countFor(block api.Key) int {
	n := 0
	for i := 0; i < len(f.waiting); i++ {
		if blockOf(f.waiting[i].key) == block {
			n++
		}
	}
	return n
}

// answerLate answers the requests that are due.
func (f *Front) answerLate() []api.Reply {
	replies := []api.Reply{}
	left := []request{}
	for i := 0; i < len(f.waiting); i++ {
		r := f.waiting[i]
		if r.due <= f.now {
			replies = append(replies, api.Reply{Who: r.who, Status: api.Late})
		} else {
			left = append(left, r)
		}
	}
	f.waiting = left
	return replies
}

// answerFine answers the requests that tiles of the version reads are good for.
func (f *Front) answerFine(tiles []tile, reads int) []api.Reply {
	replies := []api.Reply{}
	left := []request{}
	for i := 0; i < len(f.waiting); i++ {
		r := f.waiting[i]
		t, found := find(tiles, r.key)
		if found && f.isServed(r, reads) {
			replies = append(replies, api.Reply{Who: r.who, Status: api.Fine, Body: t.body, Tag: t.tag})
		} else {
			left = append(left, r)
		}
	}
	f.waiting = left
	return replies
}

// isServed tells whether a tile of the version reads is not too old for a
// request.
func (f *Front) isServed(r request, reads int) bool {
	return r.asked <= reads || f.isUnchanged(r.key, reads)
}
