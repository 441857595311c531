package seriate_test

import (
	"strings"
	"testing"

	"seriate/api"
)

var noKeys = []string{"", "abcde", "\x00\x00\x00\x00\x00", strings.Repeat("k", 1<<20)}

func TestGetOfKeysAndOfNone(t *testing.T) {
	s := newStore(t, greatest())
	committed(t, s, put("a", "1"), put("abcd", "12345678"), put("\x00\xff\xfe ", ""))
	h := begin(t, s)
	wantGet(t, s, h, "a", "1")
	wantGet(t, s, h, "abcd", "12345678")
	wantGet(t, s, h, "\x00\xff\xfe ", "")
	wantNone(t, s, h, "abc")
	for _, key := range noKeys {
		wantGetErr(t, s, h, key, api.ErrKey)
	}
}

func TestGetOfOwnWrites(t *testing.T) {
	s := newStore(t, greatest())
	committed(t, s, put("x", "old"), put("y", "old"))
	h := begin(t, s)
	wantWrite(t, s, h, api.OK, put("x", "new"), gone("y"), put("z", ""))
	wantGet(t, s, h, "x", "new")
	wantNone(t, s, h, "y")
	wantGet(t, s, h, "z", "")
}

// The value beside Gone is nowhere to be seen.
func TestGoneHasNoValue(t *testing.T) {
	s := newStore(t, greatest())
	h := begin(t, s)
	wantWrite(t, s, h, api.OK, api.Change{Key: "x", Value: "12345678", Gone: true})
	wantNone(t, s, h, "x")
	wantScan(t, s, h, "", "")
	wantCommit(t, s, h, api.OK)
	h = begin(t, s)
	wantNone(t, s, h, "x")
	wantScan(t, s, h, "", "")
}

func TestReadsJustFull(t *testing.T) {
	s := newStore(t, api.Config{Txns: 2, Reads: 3, Writes: 2, Versions: 2})
	committed(t, s, put("b", "1"))
	h := begin(t, s)
	wantNone(t, s, h, "a")
	wantGet(t, s, h, "b", "1")
	wantScan(t, s, h, "a", "b")
	// What is in the reads already needs no room.
	wantNone(t, s, h, "a")
	wantGet(t, s, h, "b", "1")
	wantScan(t, s, h, "a", "b")
	// A key in a range that was read is no entry as a key, nor the other way.
	wantGetErr(t, s, h, "aa", api.ErrFull)
	wantScanErr(t, s, h, "b", "", api.ErrFull)
	wantScanErr(t, s, h, "", "b", api.ErrFull)
	wantScanErr(t, s, h, "a", "", api.ErrFull)
	wantScanErr(t, s, h, "a", "ba", api.ErrFull)
	// Its own writes are told without an entry; but not by a range.
	wantWrite(t, s, h, api.OK, put("c", "2"))
	wantGet(t, s, h, "c", "2")
	wantScanErr(t, s, h, "c", "d", api.ErrFull)
	wantNone(t, s, h, "a")
}

func TestReadsOfTheGreatestStore(t *testing.T) {
	s := newStore(t, greatest())
	a, b := begin(t, s), begin(t, s)
	keys := puts(33)
	for _, c := range keys[:32] {
		wantNone(t, s, a, c.Key)
		wantNone(t, s, b, c.Key)
	}
	wantGetErr(t, s, a, keys[32].Key, api.ErrFull)
	wantScanErr(t, s, b, "", "", api.ErrFull)
	wantNone(t, s, a, keys[0].Key)
}

func TestReadsAreCountedOverAllRecords(t *testing.T) {
	s := newStore(t, api.Config{Txns: 4, Reads: 2, Writes: 1, Versions: 1})
	a, b := begin(t, s), begin(t, s)
	wantNone(t, s, a, "x")
	wantNone(t, s, b, "x") // the same key, but an entry of its own
	c := begin(t, s)
	wantGetErr(t, s, c, "x", api.ErrFull)
	wantCommit(t, s, a, api.OK)
	wantGetErr(t, s, c, "x", api.ErrFull) // reads of kept ones count
	wantAbort(t, s, b, api.OK)
	wantNone(t, s, c, "x") // those of aborted ones do not
	wantGetErr(t, s, c, "y", api.ErrFull)
}

func TestReadsOfOwnWritesAreNoEntries(t *testing.T) {
	s := newStore(t, api.Config{Txns: 1, Reads: 1, Writes: 2, Versions: 2})
	h := begin(t, s)
	wantWrite(t, s, h, api.OK, put("x", "1"), gone("y"))
	wantGet(t, s, h, "x", "1")
	wantNone(t, s, h, "y")
	wantNone(t, s, h, "z")
	wantGetErr(t, s, h, "w", api.ErrFull)
}

func TestReadErrorsLeaveNoEntries(t *testing.T) {
	s := newStore(t, least())
	h := begin(t, s)
	wantGetErr(t, s, h, "abcde", api.ErrKey)
	wantScanErr(t, s, h, "abcde", "", api.ErrKey)
	wantScanErr(t, s, h, "b", "a", api.ErrRange)
	wantNone(t, s, h, "x")
	wantGetErr(t, s, h, "y", api.ErrFull)
	wantScanErr(t, s, h, "y", "", api.ErrFull)
	// Which error is named first, where there is no room either.
	wantGetErr(t, s, h, "", api.ErrKey)
	wantGetErr(t, s, h, "abcde", api.ErrKey)
	wantScanErr(t, s, h, "abcde", "a", api.ErrKey)
	wantScanErr(t, s, h, "b", "abcde", api.ErrKey)
	wantScanErr(t, s, h, "a", "a", api.ErrRange)
	wantNone(t, s, h, "x")
}

func TestScanOfRanges(t *testing.T) {
	s := newStore(t, greatest())
	committed(t, s, put("c", "3"), put("ba", "2"), put("b", "1"))
	h := begin(t, s)
	wantScan(t, s, h, "", "", "b", "1", "ba", "2", "c", "3")
	wantScan(t, s, h, "b", "c", "b", "1", "ba", "2")
	wantScan(t, s, h, "b", "ba", "b", "1")
	wantScan(t, s, h, "b\x00", "c", "ba", "2")
	wantScan(t, s, h, "ba", "", "ba", "2", "c", "3")
	wantScan(t, s, h, "", "b")
	wantScan(t, s, h, "", "b\x00", "b", "1")
	wantScan(t, s, h, "c", "c\x00", "c", "3")
	wantScan(t, s, h, "ca", "")
	wantScan(t, s, h, "\xff\xff\xff\xff", "")
	wantScan(t, s, h, "", "\xff\xff\xff\xff", "b", "1", "ba", "2", "c", "3")
}

func TestScanOrdersByBytes(t *testing.T) {
	s := newStore(t, greatest())
	committed(t, s, put("\xff", "6"), put("\x7f", "4"), put("é", "5"), put("a", "3"), put("Z", "2"), put("\x00", "0"), put("\x00\x00", "1"))
	h := begin(t, s)
	wantScan(t, s, h, "", "", "\x00", "0", "\x00\x00", "1", "Z", "2", "a", "3", "\x7f", "4", "é", "5", "\xff", "6")
	wantScan(t, s, h, "\x80", "", "é", "5", "\xff", "6")
}

func TestScanOfWhatIsNoRange(t *testing.T) {
	s := newStore(t, greatest())
	committed(t, s, put("a", "1"), put("b", "2"))
	h := begin(t, s)
	for _, key := range noKeys[1:] {
		wantScanErr(t, s, h, key, "", api.ErrKey)
		wantScanErr(t, s, h, "", key, api.ErrKey)
		wantScanErr(t, s, h, key, key, api.ErrKey)
	}
	wantScanErr(t, s, h, "a", "a", api.ErrRange)
	wantScanErr(t, s, h, "abcd", "abcd", api.ErrRange)
	wantScanErr(t, s, h, "b", "a", api.ErrRange)
	wantScanErr(t, s, h, "ba", "b", api.ErrRange)
	wantScanErr(t, s, h, "\xff", "\x7f", api.ErrRange)
	wantScan(t, s, h, "abcd", "abce")
}

func TestScanLaysOwnWritesOverTheSnapshot(t *testing.T) {
	s := newStore(t, greatest())
	committed(t, s, put("a", "1"), put("b", "2"), put("c", "3"), gone("d"))
	h := begin(t, s)
	wantWrite(t, s, h, api.OK, put("aa", "4"), gone("b"), put("c", "5"), put("d", ""), gone("e"), put("z", "6"))
	wantScan(t, s, h, "", "", "a", "1", "aa", "4", "c", "5", "d", "", "z", "6")
	wantScan(t, s, h, "aa", "z", "aa", "4", "c", "5", "d", "")
	other := begin(t, s)
	wantScan(t, s, other, "", "", "a", "1", "b", "2", "c", "3")
}

func TestSnapshotIsThatOfTheBegin(t *testing.T) {
	s := newStore(t, greatest())
	committed(t, s, put("x", "1"), put("y", "1"))
	first := begin(t, s)
	committed(t, s, put("x", "2"), gone("y"), put("z", "2"))
	second := begin(t, s)
	committed(t, s, gone("x"), put("y", "3"))
	third := begin(t, s)
	wantScan(t, s, first, "", "", "x", "1", "y", "1")
	wantScan(t, s, second, "", "", "x", "2", "z", "2")
	wantScan(t, s, third, "", "", "y", "3", "z", "2")
	wantGet(t, s, first, "x", "1")
	wantGet(t, s, second, "x", "2")
	wantNone(t, s, third, "x")
	wantNone(t, s, first, "z")
	wantNone(t, s, second, "y")
	wantGet(t, s, third, "y", "3")
}
