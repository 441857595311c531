package seriate

import "seriate/api"

// state of a store. It has the store's calls without the mutex, for who holds
// it already.
type state struct {
	config   api.Config
	clock    int
	begun    int                  // how many Begins were answered OK: the last handle
	txns     map[int]*txn         // by handle: those of which there is a record, active or kept
	begins   heap                 // of the active ones
	versions map[string][]version // by key: of each their Commits rise
}

func newState(c api.Config) state {
	return state{config: c, txns: map[int]*txn{}, versions: map[string][]version{}}
}

func (s *state) begin() (int, api.Errno) {
	if len(s.txns) >= s.config.Txns {
		return 0, api.ErrFull
	}
	s.begun++
	t := newTxn(s.begun, s.clock)
	s.txns[t.handle] = t
	s.begins.add(t)
	return t.handle, api.OK
}

func (s *state) get(h int, key string) (string, bool, api.Errno) {
	t, active := s.active(h)
	if !active {
		return "", false, api.ErrHandle
	}
	if !isKey(key) {
		return "", false, api.ErrKey
	}
	if own, wrote := t.writes[key]; wrote {
		value, there := own.told()
		return value, there, api.OK
	}
	if e := s.read(t, keyEntry(key)); e != api.OK {
		return "", false, e
	}
	value, there := s.snapshot(t, key).told()
	return value, there, api.OK
}

func (s *state) scan(h int, lo string, hi string) ([]api.Pair, api.Errno) {
	t, active := s.active(h)
	if !active {
		return nil, api.ErrHandle
	}
	if e := checkRange(lo, hi); e != api.OK {
		return nil, e
	}
	r := rangeEntry(lo, hi)
	if e := s.read(t, r); e != api.OK {
		return nil, e
	}
	return s.pairs(t, r), api.OK
}

func (s *state) write(h int, changes ...api.Change) api.Errno {
	t, active := s.active(h)
	if !active {
		return api.ErrHandle
	}
	if e := checkChanges(changes); e != api.OK {
		return e
	}
	if t.keysWith(changes) > s.config.Writes {
		return api.ErrFull
	}
	if s.conflicts(t, changes) {
		s.discard(t)
		return api.ErrConflict
	}
	if !s.passReaders(t, changes) {
		s.discard(t)
		return api.ErrUnsafe
	}
	t.joinWrites(changes)
	return api.OK
}

func (s *state) commit(h int) api.Errno {
	t, active := s.active(h)
	if !active {
		return api.ErrHandle
	}
	if t.in && t.out {
		s.discard(t)
		return api.ErrUnsafe
	}
	if s.countVersions()+len(t.writes) > s.config.Versions {
		return api.ErrFull
	}
	s.publish(t)
	return api.OK
}

func (s *state) abort(h int) api.Errno {
	t, active := s.active(h)
	if !active {
		return api.ErrHandle
	}
	s.discard(t)
	return api.OK
}

func (s *state) cleanup() {
	mark := s.mark()
	s.forgetRecords(mark)
	s.dropVersions(mark)
}

func (s *state) look(h int) (api.Txn, api.Errno) {
	t, active := s.active(h)
	if !active {
		return api.Txn{}, api.ErrHandle
	}
	return api.Txn{Begin: t.begin, In: t.in, Out: t.out, Reads: len(t.reads), Writes: len(t.writes)}, api.OK
}

func (s *state) told() api.Counts {
	active := len(s.begins.list)
	return api.Counts{
		Clock:    s.clock,
		Active:   active,
		Kept:     len(s.txns) - active,
		Reads:    s.countReads(),
		Versions: s.countVersions(),
	}
}
