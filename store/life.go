package store

import "atlas/api"

// life is a feature, with the version that it came with and the one that it
// went with. Stamp asks for what batches touched at versions that are held no
// longer, so all lives stay; and since they tell what each version was, too, no
// version has a list of its own.
type life struct {
	f    api.Feature
	came int
	went int // 0, as long as it is there
}

// isIn tells whether the feature is of a version. (What a batch both brings and
// takes away again is of none.)
func (l life) isIn(version int) bool {
	return l.came <= version && (l.went == 0 || l.went > version)
}

// lastChange gives the greatest version up to this one at which the feature
// came or went, 0 if there is none.
func (l life) lastChange(version int) int {
	if l.went != 0 && l.went <= version {
		return l.went
	}
	if l.came <= version {
		return l.came
	}
	return 0
}
