package seriate

import (
	"slices"

	"seriate/api"
)

// version of a key.
type version struct {
	commit int
	content
}

func (s *state) active(h int) (*txn, bool) {
	t, known := s.txns[h]
	return t, known && t.isActive()
}

// read lets the entry join the reads of t, and marks whom it reads past.
func (s *state) read(t *txn, e entry) api.Errno {
	if !s.joinReads(t, e) {
		return api.ErrFull
	}
	if !s.passWriters(t, e) {
		s.discard(t)
		return api.ErrUnsafe
	}
	return api.OK
}

// joinReads lets the entry join the reads of t, and tells whether there was room for it.
func (s *state) joinReads(t *txn, e entry) bool {
	if _, known := t.reads[e]; known {
		return true
	}
	if s.countReads() >= s.config.Reads {
		return false
	}
	t.reads[e] = struct{}{}
	return true
}

func (s *state) countReads() int {
	n := 0
	for _, t := range s.txns {
		n += len(t.reads)
	}
	return n
}

func (s *state) countVersions() int {
	n := 0
	for _, l := range s.versions {
		n += len(l)
	}
	return n
}

func (s *state) snapshot(t *txn, key string) content {
	seen := content{gone: true}
	for _, v := range s.versions[key] {
		if v.commit <= t.begin {
			seen = v.content
		}
	}
	return seen
}

// pairs tells the keys of the range that are there for t.
func (s *state) pairs(t *txn, r entry) []api.Pair {
	var l []api.Pair
	for _, key := range s.keysIn(t, r) {
		c, own := t.writes[key]
		if !own {
			c = s.snapshot(t, key)
		}
		if value, there := c.told(); there {
			l = append(l, api.Pair{Key: key, Value: value})
		}
	}
	return l
}

// keysIn tells, in their order, the keys of the range that have versions or that t has written.
func (s *state) keysIn(t *txn, r entry) []string {
	var keys []string
	for key := range s.versions {
		if r.covers(key) {
			keys = append(keys, key)
		}
	}
	for key := range t.writes {
		if _, known := s.versions[key]; !known && r.covers(key) {
			keys = append(keys, key)
		}
	}
	slices.Sort(keys)
	return keys
}

func (s *state) conflicts(t *txn, changes []api.Change) bool {
	for _, c := range changes {
		if s.isHeld(t, c.Key) || s.isNewer(t, c.Key) {
			return true
		}
	}
	return false
}

// isHeld tells whether another active transaction has the key in its writes.
func (s *state) isHeld(t *txn, key string) bool {
	for _, other := range s.txns {
		if _, wrote := other.writes[key]; wrote && other != t && other.isActive() {
			return true
		}
	}
	return false
}

// isNewer tells whether a version of the key was committed behind the Begin of t.
func (s *state) isNewer(t *txn, key string) bool {
	for _, v := range s.versions[key] {
		if v.commit > t.begin {
			return true
		}
	}
	return false
}

// publish commits t: its writes become versions.
func (s *state) publish(t *txn) {
	s.begins.remove(t)
	s.clock++
	t.commit = s.clock
	for key, c := range t.writes {
		s.versions[key] = append(s.versions[key], version{commit: t.commit, content: c})
	}
}

// discard aborts t: nothing of it is kept.
func (s *state) discard(t *txn) {
	s.begins.remove(t)
	delete(s.txns, t.handle)
}
