package front_test

import (
	"testing"

	"atlas/api"
)

// TestTickDue: P18, requests that are due at the new time, and one time later.
func TestTickDue(t *testing.T) {
	f := made(t, api.Config{Queue: 8, Workers: 1, Wait: 3, Cache: 0, Chunk: 1})
	arrives(t, f, k00, "", 0)
	arrives(t, f, k20, "", 1)
	ticks(t, f)
	arrives(t, f, k10, "", 2)
	arrives(t, f, root, "", 3)
	ticks(t, f)
	arrives(t, f, k31, "", 4)
	ticks(t, f, late(0), late(1))
	looks(t, f, api.Look{Now: 3, Arrived: 5, Waiting: 3, Line: 3})
	flies(t, f, inLine(k00, 1), inLine(k20, 1), inLine(root, 1))
	arrives(t, f, k00, "", 5)
	ticks(t, f, late(2), late(3))
	flies(t, f, inLine(k00, 1), inLine(k20, 1))
	ticks(t, f, late(4))
	flies(t, f, inLine(k00, 1))
	ticks(t, f, late(5))
	flies(t, f)
	ticks(t, f)
	looks(t, f, api.Look{Now: 7, Arrived: 6})
}

// TestTickOrder: P18, replies stand by rising numbers, whatever flights the requests wait for.
func TestTickOrder(t *testing.T) {
	f := made(t, api.Config{Queue: 8, Workers: 2, Wait: 1, Cache: 0, Chunk: 1})
	arrives(t, f, k20, "", 0)
	arrives(t, f, k00, "", 1)
	arrives(t, f, root, "", 2)
	works(t, f, 1)
	works(t, f, 0)
	arrives(t, f, k31, "", 3)
	arrives(t, f, root, "", 4)
	arrives(t, f, k11, "", 5)
	arrives(t, f, k30, "", 6)
	ticks(t, f, late(0), late(1), late(2), late(3), late(4), late(5), late(6))
	flies(t, f, api.Flight{Key: k00, Worker: 0, Left: 1}, api.Flight{Key: k20, Worker: 1, Left: 1})
}

// TestTickLine: P18, flights in the line end if nobody waits for them any longer; the others keep their order, and those that workers have go on.
func TestTickLine(t *testing.T) {
	f := made(t, api.Config{Queue: 8, Workers: 1, Wait: 2, Cache: 0, Chunk: 1})
	arrives(t, f, tile(8, 8), "", 0)
	works(t, f, 0)
	arrives(t, f, k00, "", 1)
	arrives(t, f, k20, "", 2)
	arrives(t, f, tile(4, 0), "", 3)
	arrives(t, f, root, "", 4)
	ticks(t, f)
	arrives(t, f, tile(4, 0), "", 5)
	arrives(t, f, k31, "", 6)
	flies(t, f, api.Flight{Key: tile(8, 8), Left: 1, Waiting: 1}, inLine(k00, 1), inLine(k20, 2), inLine(tile(4, 0), 2), inLine(root, 1))
	ticks(t, f, late(0), late(1), late(2), late(3), late(4))
	flies(t, f, api.Flight{Key: tile(8, 8), Left: 1}, inLine(k20, 1), inLine(tile(4, 0), 1))
	// A flight that has ended begins anew, at the end of the line.
	arrives(t, f, k00, "", 7)
	flies(t, f, api.Flight{Key: tile(8, 8), Left: 1}, inLine(k20, 1), inLine(tile(4, 0), 1), inLine(k00, 1))
	// One for which nobody waits, but which a worker has, is joined.
	arrives(t, f, tile(9, 8), "", 8)
	flies(t, f, api.Flight{Key: tile(8, 8), Left: 1, Waiting: 1}, inLine(k20, 1), inLine(tile(4, 0), 1), inLine(k00, 1))
	works(t, f, 0, fine(8, tile(9, 8), noughts, 0))
	works(t, f, 0)
	looks(t, f, api.Look{Now: 2, Arrived: 9, Waiting: 3, Line: 2, Busy: 1, Started: 2})
	ticks(t, f, late(5), late(6))
	flies(t, f, api.Flight{Key: k20, Left: 1}, inLine(k00, 1))
}

// TestTickAgain: P18, a flight that went back to the line ends too, and the time a request waits goes on through it.
func TestTickAgain(t *testing.T) {
	f := made(t, api.Config{Queue: 8, Workers: 1, Wait: 3, Cache: 0, Chunk: 1})
	arrives(t, f, k00, "", 0)
	works(t, f, 0)
	writes(t, f, 1, put(strip(1)))
	ticks(t, f)
	arrives(t, f, k00, "", 1)
	works(t, f, 0, fine(0, k00, noughts, 0))
	ticks(t, f)
	ticks(t, f)
	flies(t, f, inLine(k00, 1))
	ticks(t, f, late(1))
	flies(t, f)
	idles(t, f, 0)
}

// TestTickAnswered: P18, a request that was answered is not late.
func TestTickAnswered(t *testing.T) {
	f := made(t, api.Config{Queue: 2, Workers: 1, Wait: 1, Cache: 28, Chunk: 1})
	arrives(t, f, k00, "", 0)
	works(t, f, 0)
	works(t, f, 0, fine(0, k00, noughts, 0))
	arrives(t, f, k00, "", 1, fine(1, k00, noughts, 0))
	arrives(t, f, k20, "", 2)
	arrives(t, f, k20, "", 3)
	arrives(t, f, k20, "", 4, full(4))
	ticks(t, f, late(2), late(3))
	for i := 0; i < 60; i++ {
		ticks(t, f)
	}
	looks(t, f, api.Look{Now: 61, Arrived: 5, Entries: 4, Bytes: 28, Started: 1})
}

// TestTickRoom: P18, who was late makes room in the queue.
func TestTickRoom(t *testing.T) {
	f := made(t, api.Config{Queue: 1, Workers: 1, Wait: 1, Cache: 0, Chunk: 1})
	for i := 0; i < 10; i++ {
		arrives(t, f, k00, "", 2*i)
		arrives(t, f, k00, "", 2*i+1, full(2*i+1))
		ticks(t, f, late(2*i))
	}
}
