package seriate

import (
	"maps"
	"slices"
)

// mark for cleaning up: what was committed up to it lies ahead of every
// transaction that is active or still to come.
func (s *state) mark() int {
	if t, found := s.begins.top(); found {
		return t.begin
	}
	return s.clock
}

// forgetRecords forgets those that overlap no transaction any more.
func (s *state) forgetRecords(mark int) {
	maps.DeleteFunc(s.txns, func(_ int, t *txn) bool {
		return !t.isActive() && t.commit <= mark
	})
}

// dropVersions drops those that no transaction sees any more.
func (s *state) dropVersions(mark int) {
	left := map[string][]version{}
	for key, l := range s.versions {
		if seen := l[firstSeen(l, mark):]; len(seen) > 0 {
			left[key] = slices.Clone(seen)
		}
	}
	s.versions = left
}

// firstSeen tells the place of the first version that is seen from the mark
// on. One that is gone is seen as if there were none.
func firstSeen(l []version, mark int) int {
	first := 0
	for i, v := range l {
		if v.commit > mark {
			break
		}
		first = i
		if v.gone {
			first = i + 1
		}
	}
	return first
}
