package seriate_test

import (
	"testing"

	"seriate/api"
	"seriate/seriate"
)

// skewed: x, y and z are committed.
func skewed(t *testing.T) *seriate.Store {
	t.Helper()
	s := newStore(t, greatest())
	committed(t, s, put("x", "0"), put("y", "0"), put("z", "0"))
	return s
}

// Ways to read x, and not y.
var readsOfX = map[string]func(s *seriate.Store, h int) api.Errno{
	"Get": func(s *seriate.Store, h int) api.Errno {
		_, _, e := s.Get(h, "x")
		return e
	},
	"Scan": func(s *seriate.Store, h int) api.Errno {
		_, e := s.Scan(h, "x", "y")
		return e
	},
	"Scan of less": func(s *seriate.Store, h int) api.Errno {
		_, e := s.Scan(h, "wxyz", "x\x00")
		return e
	},
	"Scan of all but y": func(s *seriate.Store, h int) api.Errno {
		_, e := s.Scan(h, "", "y")
		return e
	},
}

// Ways to write x.
var writesOfX = map[string][]api.Change{
	"put":       {put("x", "1")},
	"gone":      {gone("x")},
	"the last":  {put("a", "1"), gone("b"), put("x", "1")},
	"the first": {gone("x"), put("a", "1")},
}

// Whoever comes first, the reader is marked Out, the writer In, and no one else.
func TestReaderAndWriterOfOneKeyAreMarked(t *testing.T) {
	for way, read := range readsOfX {
		for change, changes := range writesOfX {
			for _, readsFirst := range []bool{true, false} {
				s := skewed(t)
				other, a, b := begin(t, s), begin(t, s), begin(t, s)
				if readsFirst {
					a, b = b, a
				}
				wantGet(t, s, other, "z", "0")
				if readsFirst {
					read(s, a)
				}
				wantMarks(t, s, a, false, false)
				wantWrite(t, s, b, api.OK, changes...)
				wantMarks(t, s, a, false, readsFirst)
				wantMarks(t, s, b, readsFirst, false)
				if e := read(s, a); e != api.OK {
					t.Fatalf("%s of %s = %d", way, change, e)
				}
				wantMarks(t, s, a, false, true)
				wantMarks(t, s, b, true, false)
				wantMarks(t, s, other, false, false)
				wantCommit(t, s, b, api.OK)
				wantMarks(t, s, a, false, true)
				wantCommit(t, s, a, api.OK)
			}
		}
	}
}

// One call may read past several, or be read past by several: all are marked.
func TestAllReadersAndWritersAreMarked(t *testing.T) {
	s := skewed(t)
	reader := begin(t, s)
	var writers []int
	for _, key := range []string{"x", "y", "z", "n"} {
		h := begin(t, s)
		wantWrite(t, s, h, api.OK, put(key, "1"))
		writers = append(writers, h)
	}
	wantScan(t, s, reader, "", "z", "x", "0", "y", "0")
	for i, h := range writers {
		wantMarks(t, s, h, i != 2, false) // z is not in the range
	}
	s = skewed(t)
	writer := begin(t, s)
	var readers []int
	for _, key := range []string{"x", "y", "z", "n"} {
		h := begin(t, s)
		wantScan(t, s, h, key, key+"\x00", pairOf(key)...)
		readers = append(readers, h)
	}
	wantWrite(t, s, writer, api.OK, put("x", "1"), put("n", "1"), gone("y"))
	for i, h := range readers {
		wantMarks(t, s, h, false, i != 2) // z is not written
	}
}

// pairOf tells what of the key there is in a skewed store.
func pairOf(key string) []string {
	if key == "n" {
		return nil
	}
	return []string{key, "0"}
}

// A writer that has committed behind the reader's Begin is read past too.
func TestReaderOfACommittedWriterIsMarked(t *testing.T) {
	for way, read := range readsOfX {
		s := skewed(t)
		a := begin(t, s)
		committed(t, s, put("x", "1"))
		behind := begin(t, s)
		if e := read(s, a); e != api.OK {
			t.Fatalf("%s = %d", way, e)
		}
		wantMarks(t, s, a, false, true)
		if e := read(s, behind); e != api.OK {
			t.Fatalf("%s = %d", way, e)
		}
		wantMarks(t, s, behind, false, false) // it sees what was written
	}
}

// A reader that has committed behind the writer's Begin reads past it too.
func TestWriterOfWhatACommittedOneReadIsMarked(t *testing.T) {
	for way, read := range readsOfX {
		s := skewed(t)
		a, b := begin(t, s), begin(t, s)
		if e := read(s, a); e != api.OK {
			t.Fatalf("%s = %d", way, e)
		}
		wantCommit(t, s, a, api.OK)
		behind := begin(t, s)
		wantWrite(t, s, b, api.OK, put("x", "1"))
		wantMarks(t, s, b, true, false)
		wantAbort(t, s, b, api.OK)
		wantWrite(t, s, behind, api.OK, put("x", "1"))
		wantMarks(t, s, behind, false, false) // it begins behind that Commit
	}
}

func TestKeysThatAreNotThereAreReadAndWrittenToo(t *testing.T) {
	s := newStore(t, greatest())
	a, b := begin(t, s), begin(t, s)
	wantNone(t, s, a, "n")
	wantWrite(t, s, b, api.OK, gone("n"))
	wantMarks(t, s, a, false, true)
	wantMarks(t, s, b, true, false)
}

func TestWhatIsNotReadPast(t *testing.T) {
	s := skewed(t)
	a, b := begin(t, s), begin(t, s)
	wantGet(t, s, a, "x", "0")
	wantScan(t, s, a, "xa", "y")
	wantWrite(t, s, b, api.OK, put("y", "1"), put("x\x00", "1"), put("xA", "1"), put("w", "1"))
	wantMarks(t, s, a, false, false)
	wantMarks(t, s, b, false, false)
	wantGet(t, s, a, "z", "0")
	wantScan(t, s, a, "y\x00", "", "z", "0")
	wantScan(t, s, a, "", "w")
	wantMarks(t, s, a, false, false)
	wantMarks(t, s, b, false, false)
}

// What it writes and reads itself is no reading past.
func TestNoOneReadsPastItself(t *testing.T) {
	s := skewed(t)
	h := begin(t, s)
	wantGet(t, s, h, "x", "0")
	wantWrite(t, s, h, api.OK, put("x", "1"), put("a", "1"))
	wantGet(t, s, h, "x", "1")
	wantScan(t, s, h, "", "", "a", "1", "x", "1", "y", "0", "z", "0")
	wantWrite(t, s, h, api.OK, gone("x"), put("y", "2"))
	wantMarks(t, s, h, false, false)
	wantCommit(t, s, h, api.OK)
}

// A Get of its own write is no read: who writes that key later finds none.
func TestGetOfOwnWriteMarksNothing(t *testing.T) {
	s := skewed(t)
	a, b := begin(t, s), begin(t, s)
	wantWrite(t, s, a, api.OK, put("x", "1"))
	wantGet(t, s, a, "x", "1")
	wantLook(t, s, a, api.Txn{Begin: 1, Writes: 1})
	wantScan(t, s, b, "", "", "x", "0", "y", "0", "z", "0")
	wantMarks(t, s, a, true, false)
	wantMarks(t, s, b, false, true)
}

func TestAbortedOnesAreNotReadPast(t *testing.T) {
	s := skewed(t)
	a, b, c := begin(t, s), begin(t, s), begin(t, s)
	wantWrite(t, s, a, api.OK, put("x", "1"))
	wantAbort(t, s, a, api.OK)
	wantGet(t, s, b, "x", "0")
	wantMarks(t, s, b, false, false)
	wantAbort(t, s, b, api.OK)
	wantWrite(t, s, c, api.OK, put("x", "1"))
	wantMarks(t, s, c, false, false)
}

func TestMarksOfAbortedOnesStayOnOthers(t *testing.T) {
	s := skewed(t)
	a, b, c := begin(t, s), begin(t, s), begin(t, s)
	wantGet(t, s, a, "x", "0")
	wantWrite(t, s, b, api.OK, put("x", "1"))
	wantAbort(t, s, a, api.OK)
	wantMarks(t, s, b, true, false)
	wantGet(t, s, b, "y", "0")
	wantWrite(t, s, c, api.OK, put("y", "1"))
	wantAbort(t, s, c, api.OK)
	wantMarks(t, s, b, true, true)
	wantCommit(t, s, b, api.ErrUnsafe)
	wantEnded(t, s, b)
}

// The marks on one that has committed stay, and so does what they forbid.
func TestMarksOfAbortedOnesStayOnCommittedOnes(t *testing.T) {
	s := skewed(t)
	a, b, late := begin(t, s), begin(t, s), begin(t, s)
	wantGet(t, s, b, "y", "0")
	wantWrite(t, s, b, api.OK, put("x", "1"))
	wantCommit(t, s, b, api.OK)
	wantGet(t, s, a, "x", "0") // b: In
	wantAbort(t, s, a, api.OK)
	wantWrite(t, s, late, api.ErrUnsafe, put("y", "1"))
	wantEnded(t, s, late)
}

func TestCallsThatFailMarkNothing(t *testing.T) {
	s := newStore(t, api.Config{Txns: 4, Reads: 2, Writes: 1, Versions: 8})
	a, b := begin(t, s), begin(t, s)
	wantWrite(t, s, b, api.OK, put("x", "1"))
	wantNone(t, s, a, "y")
	wantNone(t, s, a, "z")
	wantGetErr(t, s, a, "x", api.ErrFull)
	wantScanErr(t, s, a, "", "", api.ErrFull)
	wantScanErr(t, s, a, "x", "w", api.ErrRange)
	wantScanErr(t, s, a, "", "xxxxx", api.ErrKey)
	wantWrite(t, s, b, api.ErrKey, put("y", "1"), put("", "1"))
	wantWrite(t, s, b, api.ErrValue, put("y", "1"), put("y", "123456789"))
	wantWrite(t, s, b, api.ErrFull, put("y", "1"))
	wantMarks(t, s, a, false, false)
	wantMarks(t, s, b, false, false)
	c := begin(t, s)
	wantWrite(t, s, c, api.ErrConflict, put("x", "1"))
	wantMarks(t, s, a, false, false)
	wantMarks(t, s, b, false, false)
	wantWrite(t, s, begin(t, s), api.OK, put("y", "1"))
	wantMarks(t, s, a, false, true)
}

// A Write that conflicts marks none of those that have read another of its keys.
func TestConflictMarksNothing(t *testing.T) {
	s := skewed(t)
	reader, holder, h := begin(t, s), begin(t, s), begin(t, s)
	wantGet(t, s, reader, "x", "0")
	wantWrite(t, s, holder, api.OK, put("y", "1"))
	wantWrite(t, s, h, api.ErrConflict, put("x", "1"), put("y", "2"))
	wantMarks(t, s, reader, false, false)
}

// Examples 1 and 2 of the document.
func TestReaderBesideAWriter(t *testing.T) {
	s := newStore(t, greatest())
	committed(t, s, put("x", "a"))
	for _, key := range []string{"x", "y"} {
		one, two := begin(t, s), begin(t, s)
		wantGet(t, s, one, "x", "a")
		wantWrite(t, s, two, api.OK, put("x", "b"))
		wantCommit(t, s, two, api.OK)
		wantGet(t, s, one, "x", "a")
		wantMarks(t, s, one, false, true)
		if key == "x" {
			wantWrite(t, s, one, api.ErrConflict, put("x", "c"))
			wantGetErr(t, s, one, "x", api.ErrHandle)
			committed(t, s, put("x", "a"))
			continue
		}
		wantWrite(t, s, one, api.OK, put("y", "c"))
		wantCommit(t, s, one, api.OK)
	}
	wantScan(t, s, begin(t, s), "", "", "x", "b", "y", "c")
}

// Example 3 of the document; by keys, and by ranges.
func TestWriteSkew(t *testing.T) {
	for _, byRange := range []bool{false, true} {
		s := skewed(t)
		one, two := begin(t, s), begin(t, s)
		for _, h := range []int{one, two} {
			if byRange {
				wantScan(t, s, h, "x", "z", "x", "0", "y", "0")
				continue
			}
			wantGet(t, s, h, "x", "0")
			wantGet(t, s, h, "y", "0")
		}
		wantWrite(t, s, one, api.OK, put("x", "1"))
		wantMarks(t, s, one, true, false)
		wantMarks(t, s, two, false, true)
		wantWrite(t, s, two, api.OK, put("y", "1"))
		wantMarks(t, s, one, true, true)
		wantMarks(t, s, two, true, true)
		wantCommit(t, s, one, api.ErrUnsafe)
		wantEnded(t, s, one)
		wantMarks(t, s, two, true, true)
		wantCommit(t, s, two, api.ErrUnsafe)
		wantEnded(t, s, two)
		wantScan(t, s, begin(t, s), "", "", "x", "0", "y", "0", "z", "0")
	}
}

// Example 4 of the document.
func TestWriteOfWhatACommittedOneWithInHasRead(t *testing.T) {
	for way, read := range readsOfX {
		s := skewed(t)
		one, two, other := begin(t, s), begin(t, s), begin(t, s)
		if e := read(s, one); e != api.OK {
			t.Fatalf("%s = %d", way, e)
		}
		wantGet(t, s, two, "y", "0")
		wantWrite(t, s, one, api.OK, put("y", "1"))
		wantCommit(t, s, one, api.OK) // In
		wantGet(t, s, other, "z", "0")
		wantGet(t, s, other, "x", "0")
		wantWrite(t, s, two, api.ErrUnsafe, put("z", "1"), put("x", "1"))
		wantEnded(t, s, two)
		wantMarks(t, s, other, false, false) // nothing is marked
		wantWrite(t, s, other, api.ErrUnsafe, gone("x"))
		committed(t, s, put("x", "2"), put("z", "2"))
	}
}

// One that is still active may get both marks: it is its own Commit that fails.
func TestBothMarksOnAnActiveOne(t *testing.T) {
	for _, readFirst := range []bool{true, false} {
		s := skewed(t)
		a, middle, b := begin(t, s), begin(t, s), begin(t, s)
		wantGet(t, s, middle, "x", "0")
		wantWrite(t, s, middle, api.OK, put("y", "1"))
		if readFirst {
			wantGet(t, s, a, "y", "0")
			wantWrite(t, s, b, api.OK, put("x", "1"))
		} else {
			wantWrite(t, s, b, api.OK, put("x", "1"))
			wantGet(t, s, a, "y", "0")
		}
		wantMarks(t, s, a, false, true)
		wantMarks(t, s, middle, true, true)
		wantMarks(t, s, b, true, false)
		wantCommit(t, s, a, api.OK)
		wantCommit(t, s, b, api.OK)
		wantGet(t, s, middle, "y", "1") // it goes on till then
		wantCommit(t, s, middle, api.ErrUnsafe)
		wantEnded(t, s, middle)
		wantScan(t, s, begin(t, s), "", "", "x", "1", "y", "0", "z", "0")
	}
}

// Example 5 of the document.
func TestRangeIsReadWhereNothingWas(t *testing.T) {
	s := newStore(t, greatest())
	one, two := begin(t, s), begin(t, s)
	wantScan(t, s, one, "a", "c")
	wantWrite(t, s, two, api.OK, put("b", "1"))
	wantMarks(t, s, one, false, true)
	wantMarks(t, s, two, true, false)
	wantCommit(t, s, two, api.OK)
	wantWrite(t, s, one, api.OK, put("d", "1"))
	wantCommit(t, s, one, api.OK)
}

// late: 2 of example 6 has committed z, with Out, behind the Begins of the n
// transactions that are told.
func late(t *testing.T, n int) (*seriate.Store, []int) {
	t.Helper()
	s := skewed(t)
	one, two := begin(t, s), begin(t, s)
	wantGet(t, s, two, "y", "0")
	wantWrite(t, s, one, api.OK, put("y", "1"))
	wantCommit(t, s, one, api.OK)
	wantMarks(t, s, two, false, true)
	var l []int
	for range n {
		l = append(l, begin(t, s))
	}
	wantWrite(t, s, two, api.OK, put("z", "1"))
	wantCommit(t, s, two, api.OK)
	return s, l
}

// Example 6 of the document.
func TestReadOfWhatACommittedOneWithOutHasWritten(t *testing.T) {
	s, l := late(t, 4)
	writer := l[3]
	wantWrite(t, s, writer, api.OK, put("za", "1"))
	wantGetErr(t, s, l[0], "z", api.ErrUnsafe)
	wantEnded(t, s, l[0])
	wantScanErr(t, s, l[1], "y", "", api.ErrUnsafe)
	wantEnded(t, s, l[1])
	wantMarks(t, s, writer, false, false) // nothing is marked
	wantScan(t, s, l[2], "", "z", "x", "0", "y", "1")
	wantMarks(t, s, l[2], false, false)
	wantScan(t, s, begin(t, s), "y", "", "y", "1", "z", "1")
}

// One that committed unmarked is given Out by a later Write: then no one that
// overlaps it may read past it.
func TestCommittedOnesAreMarkedByWrites(t *testing.T) {
	s := skewed(t)
	pivot, writer, reader := begin(t, s), begin(t, s), begin(t, s)
	wantGet(t, s, pivot, "x", "0")
	wantWrite(t, s, pivot, api.OK, put("y", "1"))
	wantCommit(t, s, pivot, api.OK)
	wantWrite(t, s, writer, api.OK, put("x", "1"))
	wantGetErr(t, s, reader, "y", api.ErrUnsafe)
	wantCommit(t, s, writer, api.OK)
	wantGet(t, s, begin(t, s), "y", "1")
}

// One that committed unmarked is given In by a later read: then no one that
// overlaps it may write what it has read.
func TestCommittedOnesAreMarkedByReads(t *testing.T) {
	for way, read := range readsOfX {
		s := skewed(t)
		pivot, writer, reader := begin(t, s), begin(t, s), begin(t, s)
		wantGet(t, s, pivot, "y", "0")
		wantWrite(t, s, pivot, api.OK, put("x", "1"))
		wantCommit(t, s, pivot, api.OK)
		if e := read(s, reader); e != api.OK {
			t.Fatalf("%s = %d", way, e)
		}
		wantWrite(t, s, writer, api.ErrUnsafe, put("y", "1"))
		wantCommit(t, s, reader, api.OK)
		committed(t, s, put("y", "1"))
	}
}

// One mark alone, on whichever side, is no hindrance.
func TestOneMarkIsSafe(t *testing.T) {
	s := skewed(t)
	first, second, third := begin(t, s), begin(t, s), begin(t, s)
	wantGet(t, s, second, "x", "0")
	wantWrite(t, s, first, api.OK, put("x", "1"))
	wantWrite(t, s, third, api.OK, put("z", "1"))
	wantCommit(t, s, first, api.OK) // In
	// first is committed with In, second with Out: the other way round they may be met.
	wantCommit(t, s, second, api.OK)
	wantGet(t, s, third, "x", "0") // past first, whose Out is false
	wantMarks(t, s, third, false, true)
	wantCommit(t, s, third, api.OK)
	s = skewed(t)
	reader, writer, last := begin(t, s), begin(t, s), begin(t, s)
	wantGet(t, s, reader, "x", "0")
	wantWrite(t, s, writer, api.OK, put("x", "1"))
	wantCommit(t, s, reader, api.OK) // Out
	wantWrite(t, s, writer, api.OK, put("x", "2"))
	wantAbort(t, s, writer, api.OK)
	wantWrite(t, s, last, api.OK, put("x", "3")) // reader's In is false
	wantMarks(t, s, last, true, false)
	wantCommit(t, s, last, api.OK)
}

func TestUnsafeFreesWhatTheAbortedHad(t *testing.T) {
	s := newStore(t, api.Config{Txns: 2, Reads: 2, Writes: 2, Versions: 2})
	a, b := begin(t, s), begin(t, s)
	wantNone(t, s, a, "x")
	wantNone(t, s, b, "y")
	wantWrite(t, s, a, api.OK, put("y", "1"))
	wantWrite(t, s, b, api.OK, put("x", "1"))
	wantTold(t, s, api.Counts{Active: 2, Reads: 2})
	wantCommit(t, s, a, api.ErrUnsafe)
	wantTold(t, s, api.Counts{Active: 1, Reads: 1})
	wantWrite(t, s, b, api.OK, put("y", "2"))
	wantNone(t, s, b, "z")
	wantBegin(t, s, 3, api.OK)
}

// Which error is named first.
func TestUnsafeAmongOtherErrors(t *testing.T) {
	// A read without room is ErrFull, and the transaction goes on.
	s := newStore(t, api.Config{Txns: 8, Reads: 1, Writes: 2, Versions: 8})
	one, two := begin(t, s), begin(t, s)
	wantNone(t, s, two, "y")
	wantWrite(t, s, one, api.OK, put("y", "1"))
	wantCommit(t, s, one, api.OK)
	three := begin(t, s)
	wantWrite(t, s, two, api.OK, put("z", "1"))
	wantCommit(t, s, two, api.OK)
	wantGetErr(t, s, three, "z", api.ErrFull)
	wantScanErr(t, s, three, "", "", api.ErrFull)
	wantLook(t, s, three, api.Txn{Begin: 1})
	// A Write in conflict is ErrConflict, and one without room ErrFull.
	s = newStore(t, api.Config{Txns: 8, Reads: 8, Writes: 2, Versions: 8})
	reader, pivot, writer, holder := begin(t, s), begin(t, s), begin(t, s), begin(t, s)
	wantNone(t, s, pivot, "x")
	wantWrite(t, s, pivot, api.OK, put("y", "1"))
	wantNone(t, s, reader, "y")
	wantCommit(t, s, pivot, api.OK) // In
	wantWrite(t, s, holder, api.OK, put("a", "1"))
	wantWrite(t, s, writer, api.ErrFull, put("x", "1"), put("b", "1"), put("c", "1"))
	wantWrite(t, s, writer, api.ErrValue, put("x", "1"), put("x", "123456789"))
	wantMarks(t, s, writer, false, false)
	wantWrite(t, s, writer, api.ErrConflict, put("x", "1"), put("a", "2"))
	wantWrite(t, s, holder, api.ErrUnsafe, put("x", "1"))
}

// ErrUnsafe of a Commit is named ahead of ErrFull.
func TestUnsafeCommitWithoutRoom(t *testing.T) {
	s := newStore(t, api.Config{Txns: 8, Reads: 8, Writes: 2, Versions: 1})
	a, b := begin(t, s), begin(t, s)
	wantNone(t, s, a, "x")
	wantNone(t, s, b, "y")
	wantWrite(t, s, a, api.OK, put("y", "1"), put("z", "1"))
	wantWrite(t, s, b, api.OK, put("x", "1"))
	wantCommit(t, s, a, api.ErrUnsafe)
	wantEnded(t, s, a)
}
