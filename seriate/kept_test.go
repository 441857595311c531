package seriate

import (
	"testing"

	"seriate/api"
)

// Nothing is kept of what was ended, forgotten or dropped.
func TestNothingIsKeptBehindItsUse(t *testing.T) {
	s, _ := New(api.Config{Txns: 4, Reads: 4, Writes: 4, Versions: 4})
	h, _ := s.Begin()
	s.Write(h, api.Change{Key: "x", Gone: true})
	s.Commit(h)
	h, _ = s.Begin()
	s.Abort(h)
	s.Cleanup()
	if len(s.state.txns) != 0 || len(s.state.versions) != 0 {
		t.Fatalf("kept: %v, %v", s.state.txns, s.state.versions)
	}
	for _, x := range s.state.begins.list[:cap(s.state.begins.list)] {
		if x != nil {
			t.Fatalf("the heap still holds %+v", x)
		}
	}
}
