package seriate_test

import (
	"slices"
	"testing"

	"seriate/api"
)

// Example 7 of the document: x with the Commits 1, 2 and 5, and a Begin of 3.
func TestCleanupOfVersions(t *testing.T) {
	for _, second := range []api.Change{put("x", "2"), gone("x")} {
		for _, last := range []api.Change{put("x", "5"), gone("x")} {
			s := newStore(t, greatest())
			committed(t, s, put("x", "1"))
			committed(t, s, second)
			committed(t, s)
			h := begin(t, s)
			committed(t, s)
			committed(t, s, last)
			wantTold(t, s, api.Counts{Clock: 5, Active: 1, Kept: 5, Versions: 3})
			left := 2
			if second.Gone {
				left = 1
			}
			for range 2 {
				s.Cleanup()
				wantTold(t, s, api.Counts{Clock: 5, Active: 1, Kept: 2, Versions: left})
			}
			if second.Gone {
				wantNone(t, s, h, "x")
			} else {
				wantGet(t, s, h, "x", "2")
			}
			wantWrite(t, s, h, api.ErrConflict, put("x", "6"))
			left = 1
			if last.Gone {
				left = 0
			}
			s.Cleanup()
			wantTold(t, s, api.Counts{Clock: 5, Versions: left})
			if h = begin(t, s); last.Gone {
				wantNone(t, s, h, "x")
			} else {
				wantGet(t, s, h, "x", "5")
			}
		}
	}
}

func TestCleanupOfANewStore(t *testing.T) {
	s := newStore(t, least())
	s.Cleanup()
	wantTold(t, s, api.Counts{})
	h := begin(t, s)
	s.Cleanup()
	wantLook(t, s, h, api.Txn{})
	wantTold(t, s, api.Counts{Active: 1})
}

// Versions up to the mark and above it, of keys that each have some.
func TestCleanupOfSeveralKeys(t *testing.T) {
	s := newStore(t, greatest())
	committed(t, s, put("a", "1"), put("b", "1"), put("c", "1"), gone("d"), gone("e"))
	committed(t, s, put("a", "2"), gone("b"), gone("f"))
	h := begin(t, s)                                     // Begin 2
	committed(t, s, put("c", "3"), gone("e"), gone("g")) // above the mark: it stays, gone or not
	committed(t, s, gone("c"), put("e", "4"))
	// a: 1 2, b: 1 2-, c: 1 3 4-, d: 1-, e: 1- 3- 4, f: 2-, g: 3-
	wantTold(t, s, api.Counts{Clock: 4, Active: 1, Kept: 4, Versions: 13})
	s.Cleanup()
	// a: 2, c: 1 3 4-, e: 3- 4, g: 3-
	wantTold(t, s, api.Counts{Clock: 4, Active: 1, Kept: 2, Versions: 7})
	wantScan(t, s, h, "", "", "a", "2", "c", "1")
	wantScan(t, s, begin(t, s), "", "", "a", "2", "e", "4")
	wantAbort(t, s, h, api.OK)
	s.Cleanup()
	wantTold(t, s, api.Counts{Clock: 4, Active: 1, Reads: 1, Versions: 2})
	wantWrite(t, s, 6, api.OK, put("g", "5"), put("c", "5"))
	wantScan(t, s, 6, "", "", "a", "2", "c", "5", "e", "4", "g", "5")
	wantCommit(t, s, 6, api.OK)
	wantScan(t, s, begin(t, s), "", "", "a", "2", "c", "5", "e", "4", "g", "5")
}

// The mark is the least Begin of those that are active: as the oldest ends, by
// a Commit or by an Abort, more is forgotten.
func TestMarkIsTheLeastBeginOfActiveOnes(t *testing.T) {
	s := newStore(t, greatest())
	var l []int
	for range 6 { // Begins 0 to 5
		l = append(l, begin(t, s))
		h := begin(t, s)
		wantNone(t, s, h, "r")
		wantWrite(t, s, h, api.OK, put("x", "1"))
		wantCommit(t, s, h, api.OK)
	}
	s.Cleanup()
	wantTold(t, s, api.Counts{Clock: 6, Active: 6, Kept: 6, Reads: 6, Versions: 6})
	wantAbort(t, s, l[2], api.OK) // not the oldest one
	s.Cleanup()
	wantTold(t, s, api.Counts{Clock: 6, Active: 5, Kept: 6, Reads: 6, Versions: 6})
	wantAbort(t, s, l[0], api.OK) // the mark is 1, up to which there is one version
	s.Cleanup()
	wantTold(t, s, api.Counts{Clock: 6, Active: 4, Kept: 5, Reads: 5, Versions: 6})
	wantAbort(t, s, l[1], api.OK) // the mark is 3
	s.Cleanup()
	wantTold(t, s, api.Counts{Clock: 6, Active: 3, Kept: 3, Reads: 3, Versions: 4})
	wantCommit(t, s, l[4], api.OK)
	wantCommit(t, s, l[3], api.OK) // the mark is 5; these two have the Commits 7 and 8
	s.Cleanup()
	wantTold(t, s, api.Counts{Clock: 8, Active: 1, Kept: 3, Reads: 1, Versions: 2})
	wantCommit(t, s, l[5], api.OK) // none is active: the mark is the clock
	wantTold(t, s, api.Counts{Clock: 9, Kept: 4, Reads: 1, Versions: 2})
	s.Cleanup()
	wantTold(t, s, api.Counts{Clock: 9, Versions: 1})
}

// Who ends first, in which order, does not matter to the mark.
func TestMarkWhenManyEnd(t *testing.T) {
	for start := range 15 {
		s := newStore(t, greatest())
		var l []int
		for range 15 {
			l = append(l, begin(t, s))
			committed(t, s)
		}
		left := slices.Clone(l)
		for i := range 15 {
			h := l[(start+7*i)%15]
			wantAbort(t, s, h, api.OK)
			left = slices.DeleteFunc(left, func(n int) bool { return n == h })
			s.Cleanup()
			kept := 0
			if len(left) > 0 {
				kept = 15 - (left[0]-1)/2 // the one with Begin n has the handle 2n+1
			}
			wantTold(t, s, api.Counts{Clock: 15, Active: len(left), Kept: kept})
		}
	}
}

func TestCleanupMakesRoom(t *testing.T) {
	s := newStore(t, least())
	for n := range 40 {
		wantBegin(t, s, n+1, api.OK)
		wantTold(t, s, api.Counts{Clock: n, Active: 1})
		wantNone(t, s, n+1, "x")
		wantWrite(t, s, n+1, api.OK, gone("x"))
		wantCommit(t, s, n+1, api.OK)
		wantBegin(t, s, 0, api.ErrFull)
		s.Cleanup()
		wantEnded(t, s, n+1)
	}
}

// What still overlaps an active one is kept, with its marks, reads and writes.
func TestCleanupKeepsWhatIsNeeded(t *testing.T) {
	s, l := late(t, 1)
	s.Cleanup()
	wantGetErr(t, s, l[0], "z", api.ErrUnsafe)
	s = skewed(t)
	one, two := begin(t, s), begin(t, s)
	wantGet(t, s, two, "y", "0")
	wantGet(t, s, one, "x", "0")
	wantWrite(t, s, one, api.OK, put("y", "1"))
	wantCommit(t, s, one, api.OK)
	s.Cleanup()
	wantTold(t, s, api.Counts{Clock: 2, Active: 1, Kept: 1, Reads: 2, Versions: 4})
	wantLook(t, s, two, api.Txn{Begin: 1, Out: true, Reads: 1})
	wantWrite(t, s, two, api.ErrUnsafe, put("x", "1"))
	s.Cleanup()
	wantTold(t, s, api.Counts{Clock: 2, Versions: 3})
}

// Active ones are left alone, whatever they have done.
func TestCleanupLeavesActiveOnes(t *testing.T) {
	s := skewed(t)
	a, b := begin(t, s), begin(t, s)
	wantGet(t, s, a, "x", "0")
	wantScan(t, s, a, "", "w")
	wantWrite(t, s, b, api.OK, put("x", "1"), gone("q"))
	s.Cleanup()
	wantLook(t, s, a, api.Txn{Begin: 1, Out: true, Reads: 2})
	wantLook(t, s, b, api.Txn{Begin: 1, In: true, Writes: 2})
	wantTold(t, s, api.Counts{Clock: 1, Active: 2, Reads: 2, Versions: 3})
	wantCommit(t, s, b, api.OK)
	wantScan(t, s, begin(t, s), "", "", "x", "1", "y", "0", "z", "0")
}

// The clock and the count of Begins go on behind a Cleanup.
func TestCleanupTurnsNoClockBack(t *testing.T) {
	s := newStore(t, greatest())
	committed(t, s, put("x", "1"))
	committed(t, s, gone("x"))
	s.Cleanup()
	wantTold(t, s, api.Counts{Clock: 2})
	wantBegin(t, s, 3, api.OK)
	wantLook(t, s, 3, api.Txn{Begin: 2})
	wantCommit(t, s, 3, api.OK)
	wantTold(t, s, api.Counts{Clock: 3, Kept: 1})
}
