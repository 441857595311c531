package seriate_test

import (
	"strings"
	"testing"

	"seriate/api"
)

func TestWriteOfKeysAndValuesAtTheirEdges(t *testing.T) {
	s := newStore(t, greatest())
	h := begin(t, s)
	wantWrite(t, s, h, api.OK, put("k", ""), put("kkkk", "12345678"))
	wantWrite(t, s, h, api.OK)
	for _, key := range noKeys {
		wantWrite(t, s, h, api.ErrKey, put(key, "1"))
		wantWrite(t, s, h, api.ErrKey, gone(key))
	}
	for _, value := range []string{"123456789", strings.Repeat("v", 1<<20)} {
		wantWrite(t, s, h, api.ErrValue, put("x", value))
		wantWrite(t, s, h, api.ErrValue, api.Change{Key: "x", Value: value, Gone: true})
	}
	wantScan(t, s, h, "", "", "k", "", "kkkk", "12345678")
}

func TestWriteNamesTheFirstError(t *testing.T) {
	s := newStore(t, api.Config{Txns: 3, Reads: 4, Writes: 1, Versions: 4})
	holder, h := begin(t, s), begin(t, s)
	wantWrite(t, s, holder, api.OK, put("x", "held"))
	noKey, noValue, taken := put("", "1"), put("x", "123456789"), put("x", "1")
	wantWrite(t, s, h, api.ErrKey, put("abcde", "123456789"))
	wantWrite(t, s, h, api.ErrKey, noKey, noValue)
	wantWrite(t, s, h, api.ErrValue, noValue, noKey)
	wantWrite(t, s, h, api.ErrKey, taken, noKey)
	wantWrite(t, s, h, api.ErrValue, taken, noValue)
	wantWrite(t, s, h, api.ErrKey, taken, put("y", "1"), noKey)
	wantWrite(t, s, h, api.ErrFull, taken, put("y", "1"))
	// Till here it goes on, and nothing was written.
	wantScan(t, s, h, "", "")
	wantWrite(t, s, h, api.ErrConflict, taken)
	wantEnded(t, s, h)
}

func TestWriteThatFailsChangesNothing(t *testing.T) {
	s := newStore(t, api.Config{Txns: 2, Reads: 8, Writes: 2, Versions: 8})
	h := begin(t, s)
	wantWrite(t, s, h, api.OK, put("a", "1"))
	wantWrite(t, s, h, api.ErrKey, put("a", "2"), put("b", "2"), put("", "2"))
	wantWrite(t, s, h, api.ErrValue, put("a", "2"), gone("b"), put("c", "123456789"))
	wantWrite(t, s, h, api.ErrFull, put("a", "2"), put("b", "2"), put("c", "2"))
	wantScan(t, s, h, "", "", "a", "1")
	wantWrite(t, s, h, api.OK, put("b", "1"))
	wantScan(t, s, h, "", "", "a", "1", "b", "1")
}

func TestWritesJustFull(t *testing.T) {
	for _, c := range []api.Config{least(), greatest()} {
		s := newStore(t, c)
		h := begin(t, s)
		l := puts(c.Writes + 1)
		wantWrite(t, s, h, api.ErrFull, l...)
		wantWrite(t, s, h, api.OK, l[:c.Writes]...)
		wantWrite(t, s, h, api.OK, l[:c.Writes]...)
		wantWrite(t, s, h, api.ErrFull, l[c.Writes])
		wantWrite(t, s, h, api.ErrFull, gone(l[c.Writes].Key))
		wantWrite(t, s, h, api.OK)
		wantGet(t, s, h, l[0].Key, "0")
	}
}

func TestWritesAreCountedByKeys(t *testing.T) {
	s := newStore(t, api.Config{Txns: 2, Reads: 8, Writes: 2, Versions: 8})
	h := begin(t, s)
	wantWrite(t, s, h, api.OK, put("a", "1"), put("a", "2"), gone("a"), put("b", "3"), put("a", "4"))
	wantWrite(t, s, h, api.OK, put("b", "5"), put("b", "6"), gone("a"))
	wantScan(t, s, h, "", "", "b", "6")
	// Gone ones are writes as others are: there is no room for a third.
	wantWrite(t, s, h, api.ErrFull, put("c", "7"))
	// What one transaction has written takes no room from another.
	other := begin(t, s)
	wantWrite(t, s, other, api.OK, put("c", "8"), put("d", "9"))
}

func TestWriteTakesTheLaterChange(t *testing.T) {
	s := newStore(t, greatest())
	h := begin(t, s)
	wantWrite(t, s, h, api.OK, put("a", "1"), gone("b"), put("a", "2"), put("b", "3"), put("c", "4"), gone("c"))
	wantScan(t, s, h, "", "", "a", "2", "b", "3")
	wantWrite(t, s, h, api.OK, gone("a"), put("c", "5"))
	wantScan(t, s, h, "", "", "b", "3", "c", "5")
	wantCommit(t, s, h, api.OK)
	wantScan(t, s, begin(t, s), "", "", "b", "3", "c", "5")
}

func TestWriteIsForItselfTillTheCommit(t *testing.T) {
	s := newStore(t, greatest())
	h := begin(t, s)
	wantWrite(t, s, h, api.OK, put("x", "1"))
	other := begin(t, s)
	wantNone(t, s, other, "x")
	wantScan(t, s, other, "", "")
	wantAbort(t, s, other, api.OK)
	wantCommit(t, s, h, api.OK)
	wantGet(t, s, begin(t, s), "x", "1")
}

func TestConflictWithAnActiveOne(t *testing.T) {
	for _, held := range []api.Change{put("x", "1"), gone("x")} {
		for _, wanted := range []api.Change{put("x", "2"), gone("x")} {
			s := newStore(t, greatest())
			// The one that holds the key may have begun ahead or behind.
			early, holder, late := begin(t, s), begin(t, s), begin(t, s)
			wantWrite(t, s, holder, api.OK, held)
			wantWrite(t, s, early, api.ErrConflict, put("a", "1"), wanted)
			wantEnded(t, s, early)
			wantWrite(t, s, late, api.ErrConflict, wanted, put("a", "1"))
			wantEnded(t, s, late)
			wantWrite(t, s, holder, api.OK, put("a", "3"), put("x", "3"))
			wantCommit(t, s, holder, api.OK)
			wantScan(t, s, begin(t, s), "", "", "a", "3", "x", "3")
		}
	}
}

func TestConflictWithACommitBehindTheBegin(t *testing.T) {
	for _, first := range []api.Change{put("x", "1"), gone("x")} {
		s := newStore(t, greatest())
		committed(t, s, put("x", "0"))
		h, calm := begin(t, s), begin(t, s)
		committed(t, s, first)
		wantWrite(t, s, calm, api.OK, put("y", "1"))
		wantWrite(t, s, h, api.ErrConflict, put("z", "2"), put("x", "2"))
		wantEnded(t, s, h)
		wantCommit(t, s, calm, api.OK)
	}
}

// The version that tells of the conflict need not be the last one.
func TestConflictWithAnOlderOfTwoCommits(t *testing.T) {
	s := newStore(t, greatest())
	committed(t, s, put("w", "0"))
	h := begin(t, s)
	committed(t, s, put("x", "1"))
	committed(t, s, put("x", "2"))
	wantWrite(t, s, h, api.ErrConflict, put("x", "3"))
}

func TestNoConflict(t *testing.T) {
	s := newStore(t, greatest())
	committed(t, s, put("x", "1"))
	h := begin(t, s)
	wantWrite(t, s, h, api.OK, put("x", "2")) // committed at its Begin, not behind it
	wantWrite(t, s, h, api.OK, gone("x"), put("x", "3"))
	other := begin(t, s)
	wantWrite(t, s, other, api.OK, put("y", "1"))
	wantWrite(t, s, other, api.OK) // nothing is in no one's way
	wantAbort(t, s, h, api.OK)
	wantWrite(t, s, other, api.OK, put("x", "4")) // what was aborted neither
	wantCommit(t, s, other, api.OK)
	wantScan(t, s, begin(t, s), "", "", "x", "4", "y", "1")
}

func TestConflictFreesWhatTheAbortedHad(t *testing.T) {
	s := newStore(t, api.Config{Txns: 2, Reads: 1, Writes: 2, Versions: 4})
	holder, h := begin(t, s), begin(t, s)
	wantWrite(t, s, holder, api.OK, put("x", "1"))
	wantWrite(t, s, h, api.OK, put("y", "1"))
	wantNone(t, s, h, "z")
	wantGetErr(t, s, holder, "w", api.ErrFull)
	wantWrite(t, s, h, api.ErrConflict, put("x", "2"))
	wantWrite(t, s, holder, api.OK, put("y", "2"))
	wantNone(t, s, holder, "w")
	wantBegin(t, s, 3, api.OK)
}
