package seriate_test

import (
	"testing"

	"seriate/api"
)

func TestToldOfANewStore(t *testing.T) {
	wantTold(t, newStore(t, least()), api.Counts{})
	wantTold(t, newStore(t, greatest()), api.Counts{})
}

func TestClockCountsCommits(t *testing.T) {
	s := newStore(t, api.Config{Txns: 8, Reads: 8, Writes: 1, Versions: 1})
	first, second, third := begin(t, s), begin(t, s), begin(t, s)
	wantWrite(t, s, first, api.OK, put("x", "1"))
	wantWrite(t, s, third, api.OK, put("y", "1"))
	wantTold(t, s, api.Counts{Active: 3})
	wantCommit(t, s, first, api.OK)
	wantTold(t, s, api.Counts{Clock: 1, Active: 2, Kept: 1, Versions: 1})
	wantCommit(t, s, second, api.OK) // it wrote nothing
	wantTold(t, s, api.Counts{Clock: 2, Active: 1, Kept: 2, Versions: 1})
	wantCommit(t, s, third, api.ErrFull)
	wantTold(t, s, api.Counts{Clock: 2, Active: 1, Kept: 2, Versions: 1})
	wantAbort(t, s, third, api.OK)
	wantTold(t, s, api.Counts{Clock: 2, Kept: 2, Versions: 1})
	wantLook(t, s, begin(t, s), api.Txn{Begin: 2})
}

// Begin is the clock when it began, whatever commits later.
func TestLookTellsTheBegin(t *testing.T) {
	s := newStore(t, greatest())
	for n := range 5 {
		h := begin(t, s)
		wantLook(t, s, h, api.Txn{Begin: n})
		committed(t, s, put("x", "1"))
		wantLook(t, s, h, api.Txn{Begin: n})
	}
}

func TestLookCountsEntriesAndKeys(t *testing.T) {
	s := newStore(t, api.Config{Txns: 4, Reads: 4, Writes: 3, Versions: 8})
	other, h := begin(t, s), begin(t, s)
	wantWrite(t, s, h, api.OK, put("a", "1"), put("a", "2"), gone("b"))
	wantLook(t, s, h, api.Txn{Writes: 2})
	wantGet(t, s, h, "a", "2") // no entry
	wantNone(t, s, h, "c")
	wantNone(t, s, h, "c")
	wantScan(t, s, h, "c", "d")
	wantScan(t, s, h, "c", "d")
	wantLook(t, s, h, api.Txn{Reads: 2, Writes: 2})
	wantWrite(t, s, h, api.OK, put("c", "3"))
	wantWrite(t, s, h, api.ErrFull, put("d", "3"))
	wantScan(t, s, h, "", "c", "a", "2")
	wantLook(t, s, h, api.Txn{Reads: 3, Writes: 3})
	wantNone(t, s, other, "z")
	wantGetErr(t, s, h, "y", api.ErrFull)
	wantLook(t, s, h, api.Txn{Reads: 3, Writes: 3})
	wantLook(t, s, other, api.Txn{Reads: 1})
}

func TestToldCountsOverAllRecords(t *testing.T) {
	s := newStore(t, greatest())
	a, b, c := begin(t, s), begin(t, s), begin(t, s)
	wantNone(t, s, a, "x")
	wantScan(t, s, a, "x", "")
	wantNone(t, s, b, "x")
	wantNone(t, s, c, "x")
	wantWrite(t, s, a, api.OK, put("a", "1"), gone("b"))
	wantTold(t, s, api.Counts{Active: 3, Reads: 4})
	wantCommit(t, s, a, api.OK)
	wantTold(t, s, api.Counts{Clock: 1, Active: 2, Kept: 1, Reads: 4, Versions: 2})
	wantAbort(t, s, b, api.OK)
	wantTold(t, s, api.Counts{Clock: 1, Active: 1, Kept: 1, Reads: 3, Versions: 2})
	committed(t, s, put("a", "2"), put("c", "2"))
	wantTold(t, s, api.Counts{Clock: 2, Active: 1, Kept: 2, Reads: 3, Versions: 4})
	wantWrite(t, s, c, api.ErrConflict, put("a", "3"))
	wantTold(t, s, api.Counts{Clock: 2, Kept: 2, Reads: 2, Versions: 4})
}

// Look and Told are looks alone: they change nothing.
func TestLookAndToldChangeNothing(t *testing.T) {
	s := newStore(t, least())
	h := begin(t, s)
	for range 3 {
		wantLook(t, s, h, api.Txn{})
		wantTold(t, s, api.Counts{Active: 1})
	}
	wantNone(t, s, h, "x")
	wantGetErr(t, s, h, "y", api.ErrFull)
}
