package seriate

import (
	"testing"

	"seriate/api"
)

// The clock, Begins and Commits are told by no call of P3 to P9, so they are
// looked at from inside.
func TestClockCountsCommits(t *testing.T) {
	s, _ := New(api.Config{Txns: 8, Reads: 8, Writes: 1, Versions: 1})
	first, _ := s.Begin()
	second, _ := s.Begin()
	third, _ := s.Begin()
	s.Write(first, api.Change{Key: "x"})
	s.Write(third, api.Change{Key: "y"})
	wantClock(t, s, 0)
	s.Commit(first)
	wantClock(t, s, 1)
	s.Commit(second) // it wrote nothing
	wantClock(t, s, 2)
	if e := s.Commit(third); e != api.ErrFull {
		t.Fatalf("Commit without room = %d", e)
	}
	wantClock(t, s, 2)
	s.Abort(third)
	wantClock(t, s, 2)
	fourth, _ := s.Begin()
	wantTimes(t, s, first, 0, 1)
	wantTimes(t, s, second, 0, 2)
	wantTimes(t, s, fourth, 2, 0)
	if l := s.versions["x"]; len(l) != 1 || l[0].commit != 1 {
		t.Fatalf("versions of x: %+v", l)
	}
}

func wantClock(t *testing.T, s *Store, want int) {
	t.Helper()
	if s.clock != want {
		t.Fatalf("the clock is at %d, want %d", s.clock, want)
	}
}

func wantTimes(t *testing.T, s *Store, h int, begin int, commit int) {
	t.Helper()
	r := s.txns[h]
	if r == nil || r.begin != begin || r.commit != commit {
		t.Fatalf("the record of %d is %+v, want Begin %d, Commit %d", h, r, begin, commit)
	}
}
