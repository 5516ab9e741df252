package front

import "atlas/api"

// isRight tells whether a front may have these numbers.
func isRight(c api.Config) bool {
	return isWithin(c.Queue, 1, api.MaxQueue) &&
		isWithin(c.Workers, 1, api.MaxWorkers) &&
		isWithin(c.Wait, 1, api.MaxWait) &&
		isWithin(c.Cache, 0, api.MaxCache) &&
		isWithin(c.Chunk, 1, api.MaxChunk)
}

func isWithin(n int, least int, most int) bool {
	return n >= least && n <= most
}
