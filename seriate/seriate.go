// Package seriate: a store whose transactions come out as if one had run behind the other: see DOC.md.
package seriate

import (
	"sync"

	"seriate/api"
)

// Store of values by keys.
type Store struct {
	mutex sync.Mutex
	state state
}

// New makes a store (P3).
func New(c api.Config) (*Store, api.Errno) {
	if !isConfig(c) {
		return nil, api.ErrConfig
	}
	return &Store{state: newState(c)}, api.OK
}

// Begin begins a transaction (P4).
func (s *Store) Begin() (int, api.Errno) {
	s.mutex.Lock()
	defer s.mutex.Unlock()
	return s.state.begin()
}

// Get reads a key (P5).
func (s *Store) Get(h int, key string) (string, bool, api.Errno) {
	s.mutex.Lock()
	defer s.mutex.Unlock()
	return s.state.get(h, key)
}

// Scan reads a range (P6).
func (s *Store) Scan(h int, lo string, hi string) ([]api.Pair, api.Errno) {
	s.mutex.Lock()
	defer s.mutex.Unlock()
	return s.state.scan(h, lo, hi)
}

// Write changes keys (P7).
func (s *Store) Write(h int, changes ...api.Change) api.Errno {
	s.mutex.Lock()
	defer s.mutex.Unlock()
	return s.state.write(h, changes...)
}

// Commit commits a transaction (P8).
func (s *Store) Commit(h int) api.Errno {
	s.mutex.Lock()
	defer s.mutex.Unlock()
	return s.state.commit(h)
}

// Abort aborts it (P9).
func (s *Store) Abort(h int) api.Errno {
	s.mutex.Lock()
	defer s.mutex.Unlock()
	return s.state.abort(h)
}

// Cleanup forgets what no transaction needs any more (P10).
func (s *Store) Cleanup() {
	s.mutex.Lock()
	defer s.mutex.Unlock()
	s.state.cleanup()
}

// Look tells of an active transaction (P11).
func (s *Store) Look(h int) (api.Txn, api.Errno) {
	s.mutex.Lock()
	defer s.mutex.Unlock()
	return s.state.look(h)
}

// Told counts (P11).
func (s *Store) Told() api.Counts {
	s.mutex.Lock()
	defer s.mutex.Unlock()
	return s.state.told()
}

// Run lets clients run (P12, P13). Like every other call it is under the mutex
// from its beginning to its end: nobody else's call comes between two turns, so
// that what it answers hangs on the schedule alone.
func (s *Store) Run(programs [][]api.Ins, schedule []int) ([]api.Outcome, api.Errno) {
	s.mutex.Lock()
	defer s.mutex.Unlock()
	if !arePrograms(programs) {
		return nil, api.ErrProgram
	}
	if !isSchedule(schedule, len(programs)) {
		return nil, api.ErrSchedule
	}
	return s.state.run(programs, schedule), api.OK
}
