package seriate

import (
	"slices"

	"seriate/api"
)

// An order is spoilt only around a transaction that reads past one and is
// read past by another. So none commits with both marks, and none that has
// committed with one is given the other: who would do so is aborted instead.

// overlaps tells whether an active transaction overlaps another one.
func (t *txn) overlaps(other *txn) bool {
	return other.isActive() || other.commit > t.begin
}

func (t *txn) readPast(writer *txn) { t.out, writer.in = true, true }

// passWriters marks that t reads past those that have written what the entry
// covers. It tells whether that may be; if not, nothing is marked.
func (s *state) passWriters(t *txn, e entry) bool {
	writers := s.overlapping(t, func(other *txn) bool { return other.hasWritten(e) })
	if slices.ContainsFunc(writers, isCommittedOut) {
		return false
	}
	for _, writer := range writers {
		t.readPast(writer)
	}
	return true
}

// passReaders marks that those that have read a changed key read past t. It
// tells whether that may be; if not, nothing is marked.
func (s *state) passReaders(t *txn, changes []api.Change) bool {
	readers := s.overlapping(t, func(other *txn) bool { return other.hasRead(changes) })
	if slices.ContainsFunc(readers, isCommittedIn) {
		return false
	}
	for _, reader := range readers {
		reader.readPast(t)
	}
	return true
}

func isCommittedOut(t *txn) bool { return !t.isActive() && t.out }

func isCommittedIn(t *txn) bool { return !t.isActive() && t.in }

// overlapping tells, in no order, the others that overlap t and are meant.
func (s *state) overlapping(t *txn, isMeant func(*txn) bool) []*txn {
	var l []*txn
	for _, other := range s.txns {
		if other != t && t.overlaps(other) && isMeant(other) {
			l = append(l, other)
		}
	}
	return l
}

func (t *txn) hasWritten(e entry) bool {
	for key := range t.writes {
		if e.covers(key) {
			return true
		}
	}
	return false
}

func (t *txn) hasRead(changes []api.Change) bool {
	for e := range t.reads {
		for _, c := range changes {
			if e.covers(c.Key) {
				return true
			}
		}
	}
	return false
}
