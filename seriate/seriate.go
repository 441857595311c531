// Package seriate: a store whose transactions come out as if one had run behind the other: see DOC.md.
package seriate

import (
	"sync"

	"seriate/api"
)

// Store of values by keys.
type Store struct {
	mutex    sync.Mutex
	config   api.Config
	clock    int
	begun    int                  // how many Begins were answered OK: the last handle
	txns     map[int]*txn         // by handle: those of which there is a record, active or kept
	begins   heap                 // of the active ones
	versions map[string][]version // by key: of each their Commits rise
}

// New makes a store (P3).
func New(c api.Config) (*Store, api.Errno) {
	if !isConfig(c) {
		return nil, api.ErrConfig
	}
	return &Store{config: c, txns: map[int]*txn{}, versions: map[string][]version{}}, api.OK
}

// Begin begins a transaction (P4).
func (s *Store) Begin() (int, api.Errno) {
	s.mutex.Lock()
	defer s.mutex.Unlock()
	if len(s.txns) >= s.config.Txns {
		return 0, api.ErrFull
	}
	return s.begin(), api.OK
}

// Get reads a key (P5).
func (s *Store) Get(h int, key string) (string, bool, api.Errno) {
	s.mutex.Lock()
	defer s.mutex.Unlock()
	t, active := s.active(h)
	if !active {
		return "", false, api.ErrHandle
	}
	if !isKey(key) {
		return "", false, api.ErrKey
	}
	if own, wrote := t.writes[key]; wrote {
		value, there := own.told()
		return value, there, api.OK
	}
	if e := s.read(t, keyEntry(key)); e != api.OK {
		return "", false, e
	}
	value, there := s.snapshot(t, key).told()
	return value, there, api.OK
}

// Scan reads a range (P6).
func (s *Store) Scan(h int, lo string, hi string) ([]api.Pair, api.Errno) {
	s.mutex.Lock()
	defer s.mutex.Unlock()
	t, active := s.active(h)
	if !active {
		return nil, api.ErrHandle
	}
	if e := checkRange(lo, hi); e != api.OK {
		return nil, e
	}
	r := rangeEntry(lo, hi)
	if e := s.read(t, r); e != api.OK {
		return nil, e
	}
	return s.pairs(t, r), api.OK
}

// Write changes keys (P7).
func (s *Store) Write(h int, changes ...api.Change) api.Errno {
	s.mutex.Lock()
	defer s.mutex.Unlock()
	t, active := s.active(h)
	if !active {
		return api.ErrHandle
	}
	if e := checkChanges(changes); e != api.OK {
		return e
	}
	if t.keysWith(changes) > s.config.Writes {
		return api.ErrFull
	}
	if s.conflicts(t, changes) {
		s.abort(t)
		return api.ErrConflict
	}
	if !s.passReaders(t, changes) {
		s.abort(t)
		return api.ErrUnsafe
	}
	t.joinWrites(changes)
	return api.OK
}

// Commit commits a transaction (P8).
func (s *Store) Commit(h int) api.Errno {
	s.mutex.Lock()
	defer s.mutex.Unlock()
	t, active := s.active(h)
	if !active {
		return api.ErrHandle
	}
	if t.in && t.out {
		s.abort(t)
		return api.ErrUnsafe
	}
	if s.countVersions()+len(t.writes) > s.config.Versions {
		return api.ErrFull
	}
	s.commit(t)
	return api.OK
}

// Abort aborts it (P9).
func (s *Store) Abort(h int) api.Errno {
	s.mutex.Lock()
	defer s.mutex.Unlock()
	t, active := s.active(h)
	if !active {
		return api.ErrHandle
	}
	s.abort(t)
	return api.OK
}

// Cleanup forgets what no transaction needs any more (P10).
func (s *Store) Cleanup() {
	s.mutex.Lock()
	defer s.mutex.Unlock()
	mark := s.mark()
	s.forgetRecords(mark)
	s.dropVersions(mark)
}

// Look tells of an active transaction (P11).
func (s *Store) Look(h int) (api.Txn, api.Errno) {
	s.mutex.Lock()
	defer s.mutex.Unlock()
	t, active := s.active(h)
	if !active {
		return api.Txn{}, api.ErrHandle
	}
	return api.Txn{Begin: t.begin, In: t.in, Out: t.out, Reads: len(t.reads), Writes: len(t.writes)}, api.OK
}

// Told counts (P11).
func (s *Store) Told() api.Counts {
	s.mutex.Lock()
	defer s.mutex.Unlock()
	active := len(s.begins.list)
	return api.Counts{
		Clock:    s.clock,
		Active:   active,
		Kept:     len(s.txns) - active,
		Reads:    s.countReads(),
		Versions: s.countVersions(),
	}
}

// Run lets clients run (P12, P13).
func (s *Store) Run(programs [][]api.Ins, schedule []int) ([]api.Outcome, api.Errno) {
	return nil, api.OK
}
