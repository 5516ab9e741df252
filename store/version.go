package store

import "atlas/api"

// isHeld tells whether there is such a version and it is held.
func (s *Store) isHeld(version int) bool {
	if version < 0 || version > s.newest {
		return false
	}
	return version >= s.newest-s.keep || s.hasPin(version)
}

func (s *Store) hasPin(version int) bool {
	for i := 0; i < len(s.pins); i++ {
		if s.pins[i] == version {
			return true
		}
	}
	return false
}

// next gives the feature of a version with the least Id above after; false, if
// there is none.
func (s *Store) next(version int, after int) (api.Feature, bool) {
	least := api.Feature{}
	found := false
	for i := 0; i < len(s.lives); i++ {
		f := s.lives[i].f
		if f.Id <= after || !s.lives[i].isIn(version) {
			continue
		}
		if !found || f.Id < least.Id {
			least = f
			found = true
		}
	}
	return least, found
}
