package seriate_test

import (
	"testing"

	"seriate/api"
)

func TestCommitOfOneThatWroteNothing(t *testing.T) {
	s := newStore(t, greatest())
	wantCommit(t, s, begin(t, s), api.OK)
	h := begin(t, s)
	wantScan(t, s, h, "", "")
	wantCommit(t, s, h, api.OK)
	wantEnded(t, s, h)
}

func TestCommitsLieOneBehindTheOther(t *testing.T) {
	s := newStore(t, greatest())
	for _, value := range []string{"1", "2", "3"} {
		committed(t, s, put("x", value))
		h := begin(t, s)
		wantGet(t, s, h, "x", value)
		wantAbort(t, s, h, api.OK)
	}
	committed(t, s, gone("x"))
	wantNone(t, s, begin(t, s), "x")
}

func TestOldSnapshotsOutliveCommits(t *testing.T) {
	s := newStore(t, greatest())
	old := begin(t, s)
	wantCommit(t, s, begin(t, s), api.OK)
	committed(t, s, put("x", "1"))
	wantNone(t, s, old, "x")
	h := begin(t, s)
	wantGet(t, s, h, "x", "1")
	wantWrite(t, s, h, api.OK, put("x", "2"))
	wantCommit(t, s, h, api.OK)
	wantNone(t, s, old, "x")
}

func TestVersionsJustFull(t *testing.T) {
	s := newStore(t, api.Config{Txns: 8, Reads: 8, Writes: 3, Versions: 3})
	committed(t, s, put("x", "1"), put("y", "1"))
	h := begin(t, s)
	wantWrite(t, s, h, api.OK, put("x", "2"), put("x", "3"), gone("y"))
	wantCommit(t, s, h, api.ErrFull)
	wantCommit(t, s, h, api.ErrFull)
	// It is still active, and nothing of it has come out.
	wantGet(t, s, h, "x", "3")
	wantScan(t, s, begin(t, s), "", "", "x", "1", "y", "1")
	wantAbort(t, s, h, api.OK)
	committed(t, s, put("x", "4"), put("x", "5")) // one key, one version: just full
	wantCommit(t, s, begin(t, s), api.OK)         // no writes need no room
	h = begin(t, s)
	wantWrite(t, s, h, api.OK, gone("x"))
	wantCommit(t, s, h, api.ErrFull)
	wantNone(t, s, h, "x")
	wantScan(t, s, begin(t, s), "", "", "x", "5", "y", "1")
}

func TestVersionsOfGoneKeysCount(t *testing.T) {
	s := newStore(t, api.Config{Txns: 2, Reads: 1, Writes: 1, Versions: 1})
	committed(t, s, gone("never"[:4]))
	h := begin(t, s)
	wantWrite(t, s, h, api.OK, put("x", "1"))
	wantCommit(t, s, h, api.ErrFull)
}

func TestVersionsOfTheGreatestStore(t *testing.T) {
	s := newStore(t, greatest())
	l := puts(16)
	for range 8 {
		committed(t, s, l...)
	}
	h := begin(t, s)
	wantCommit(t, s, h, api.OK)
	h = begin(t, s)
	wantWrite(t, s, h, api.OK, put("x", "1"))
	wantCommit(t, s, h, api.ErrFull)
	wantGet(t, s, h, "k15", "15")
}

// A Commit that has no room leaves the clock as it was.
func TestCommitWithoutRoomIsNoCommit(t *testing.T) {
	s := newStore(t, api.Config{Txns: 4, Reads: 8, Writes: 1, Versions: 1})
	h, other := begin(t, s), begin(t, s)
	wantWrite(t, s, h, api.OK, put("x", "1"))
	wantWrite(t, s, other, api.OK, put("y", "1"))
	wantCommit(t, s, h, api.OK)
	wantCommit(t, s, other, api.ErrFull)
	last := begin(t, s)
	wantScan(t, s, last, "", "", "x", "1")
	wantWrite(t, s, last, api.ErrConflict, put("y", "2")) // the other one holds it yet
	wantAbort(t, s, other, api.OK)
	wantWrite(t, s, begin(t, s), api.OK, put("y", "2"))
}

func TestAbortLeavesNothing(t *testing.T) {
	s := newStore(t, api.Config{Txns: 1, Reads: 1, Writes: 1, Versions: 1})
	for h := 1; h <= 40; h++ {
		wantBegin(t, s, h, api.OK)
		wantNone(t, s, h, "x")
		wantWrite(t, s, h, api.OK, put("x", "1"))
		wantAbort(t, s, h, api.OK)
		wantEnded(t, s, h)
	}
	committed(t, s, put("x", "2"))
}

func TestAbortLeavesOthersAlone(t *testing.T) {
	s := newStore(t, greatest())
	a, b := begin(t, s), begin(t, s)
	wantWrite(t, s, a, api.OK, put("x", "1"))
	wantWrite(t, s, b, api.OK, put("y", "2"))
	wantAbort(t, s, a, api.OK)
	wantGet(t, s, b, "y", "2")
	wantCommit(t, s, b, api.OK)
	wantScan(t, s, begin(t, s), "", "", "y", "2")
}
