package front_test

import (
	"testing"

	"atlas/api"
)

// TestLook: P19, each number of Look behind calls of every kind.
func TestLook(t *testing.T) {
	f := made(t, api.Config{Queue: 3, Workers: 2, Wait: 2, Cache: 100, Chunk: 1})
	looks(t, f, api.Look{})
	comes(t, f, "?", "", 0, bad(0))
	looks(t, f, api.Look{Arrived: 1})
	comes(t, f, "/x/0/0/0.tile", "", 1, missing(1))
	looks(t, f, api.Look{Arrived: 2})
	arrives(t, f, k00, tag(k00, 0), 2, same(2, k00, 0))
	looks(t, f, api.Look{Arrived: 3})
	arrives(t, f, k00, "", 3)
	looks(t, f, api.Look{Arrived: 4, Waiting: 1, Line: 1})
	arrives(t, f, k11, "", 4)
	looks(t, f, api.Look{Arrived: 5, Waiting: 2, Line: 1})
	arrives(t, f, root, "", 5)
	looks(t, f, api.Look{Arrived: 6, Waiting: 3, Line: 2})
	arrives(t, f, root, "", 6, full(6))
	looks(t, f, api.Look{Arrived: 7, Waiting: 3, Line: 2})
	writes(t, f, 1, put(inside(1, k20)), put(inside(2, k20)))
	looks(t, f, api.Look{Version: 1, Arrived: 7, Waiting: 3, Line: 2})
	refuses(t, f, api.ErrNone, drop(3))
	ticks(t, f)
	looks(t, f, api.Look{Version: 1, Now: 1, Arrived: 7, Waiting: 3, Line: 2})
	works(t, f, 1)
	looks(t, f, api.Look{Version: 1, Now: 1, Arrived: 7, Waiting: 3, Line: 1, Busy: 1, Started: 1})
	works(t, f, 0)
	looks(t, f, api.Look{Version: 1, Now: 1, Arrived: 7, Waiting: 3, Busy: 2, Started: 2})
	works(t, f, 1)
	looks(t, f, api.Look{Version: 1, Now: 1, Arrived: 7, Waiting: 3, Busy: 2, Started: 2})
	works(t, f, 1, fine(3, k00, noughts, 0), fine(4, k11, noughts, 0))
	looks(t, f, api.Look{Version: 1, Now: 1, Arrived: 7, Waiting: 1, Busy: 1, Entries: 4, Bytes: 28, Started: 2})
	ticks(t, f, late(5))
	looks(t, f, api.Look{Version: 1, Now: 2, Arrived: 7, Busy: 1, Entries: 4, Bytes: 28, Started: 2})
	works(t, f, 0)
	works(t, f, 0)
	looks(t, f, api.Look{Version: 1, Now: 2, Arrived: 7, Entries: 5, Bytes: 35, Started: 2})
	writes(t, f, 2, put(strip(3)))
	looks(t, f, api.Look{Version: 2, Now: 2, Arrived: 7, Entries: 3, Bytes: 21, Started: 2})
	arrives(t, f, k10, "", 7, fine(7, k10, noughts, 0))
	looks(t, f, api.Look{Version: 2, Now: 2, Arrived: 8, Entries: 3, Bytes: 21, Started: 2})
	idles(t, f, 0)
	idles(t, f, 2)
}

// TestLookChangesNothing: P19, Look and Flights only tell.
func TestLookChangesNothing(t *testing.T) {
	f := made(t, small)
	arrives(t, f, k00, "", 0)
	arrives(t, f, k20, "", 1)
	works(t, f, 0)
	for i := 0; i < 10; i++ {
		looks(t, f, api.Look{Arrived: 2, Waiting: 2, Line: 1, Busy: 1, Started: 1})
		flies(t, f, api.Flight{Key: k00, Left: 1, Waiting: 1}, inLine(k20, 1))
	}
	works(t, f, 0, fine(0, k00, noughts, 0))
}

// TestFlights: P19, the order of Flights and each of its fields: those of workers by the worker's number, then the line from its head on.
func TestFlights(t *testing.T) {
	f := made(t, api.Config{Queue: 8, Workers: 4, Wait: 50, Cache: 0, Chunk: 3})
	keys := []api.Key{{Layer: 2, Z: 5, X: 6, Y: 4}, root, k20, {Layer: 3, Z: 22, X: 4194302, Y: 4194302}, k00, {Layer: 1, Z: 1}}
	var line []api.Flight
	for i, k := range keys {
		far := k
		if k.Z > 0 {
			far.X, far.Y = k.X+1, k.Y+1
		}
		arrives(t, f, far, "", i)
		line = append(line, inLine(k, 1))
		flies(t, f, line...)
	}
	arrives(t, f, keys[3], "", 6)
	arrives(t, f, keys[5], "", 7)
	line[3].Waiting, line[5].Waiting = 2, 2
	flies(t, f, line...)
	works(t, f, 2)
	second := api.Flight{Key: keys[0], Worker: 2, Reads: 0, Left: 1, Waiting: 1}
	flies(t, f, append([]api.Flight{second}, line[1:]...)...)
	writes(t, f, 1, put(strip(1)), put(strip(2)), put(strip(3)), put(strip(4)))
	works(t, f, 0)
	first := api.Flight{Key: keys[1], Worker: 0, Reads: 1, Left: 2, Waiting: 1}
	flies(t, f, append([]api.Flight{first, second}, line[2:]...)...)
	writes(t, f, 2, put(strip(5)), put(strip(6)), put(strip(7)))
	works(t, f, 3)
	third := api.Flight{Key: keys[2], Worker: 3, Reads: 2, Left: 3, Waiting: 1}
	flies(t, f, append([]api.Flight{first, second, third}, line[3:]...)...)
	works(t, f, 3)
	third.Left = 2
	works(t, f, 0)
	first.Left = 1
	flies(t, f, append([]api.Flight{first, second, third}, line[3:]...)...)
	works(t, f, 2, fine(0, api.Key{Layer: 2, Z: 5, X: 7, Y: 5}, noughts, 0))
	flies(t, f, append([]api.Flight{first, third}, line[3:]...)...)
	works(t, f, 1)
	flies(t, f, first, api.Flight{Key: keys[3], Worker: 1, Reads: 2, Left: 3, Waiting: 2}, third, line[4], line[5])
}
