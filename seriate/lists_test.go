package seriate_test

import (
	"slices"
	"sync"
	"testing"

	"seriate/api"
)

func TestWriteNeitherChangesNorKeepsItsList(t *testing.T) {
	s := newStore(t, greatest())
	h := begin(t, s)
	whole := []api.Change{put("c", "1"), put("a", "2"), gone("b"), put("a", "3"), put("z", "behind"), gone("y")}
	before := slices.Clone(whole)
	wantWrite(t, s, h, api.OK, whole[:4]...)
	wantWrite(t, s, h, api.ErrKey, append(whole[:4:4], put("", ""))...)
	if !slices.Equal(whole, before) {
		t.Fatalf("Write wrote into its list, or behind it: %#v", whole)
	}
	for i := range whole {
		whole[i] = put("q", "over")
	}
	wantScan(t, s, h, "", "", "a", "3", "c", "1")
	wantCommit(t, s, h, api.OK)
	for i := range whole {
		whole[i] = gone("a")
	}
	wantScan(t, s, begin(t, s), "", "", "a", "3", "c", "1")
}

func TestWriteThatFailsLeavesItsListAlone(t *testing.T) {
	s := newStore(t, api.Config{Txns: 2, Reads: 1, Writes: 2, Versions: 2})
	holder, h := begin(t, s), begin(t, s)
	wantWrite(t, s, holder, api.OK, put("x", "1"))
	l := []api.Change{put("y", "1"), gone("x"), put("a", "1")}
	before := slices.Clone(l)
	wantWrite(t, s, h, api.ErrFull, l...)
	wantWrite(t, s, h, api.ErrConflict, l[:2]...)
	wantWrite(t, s, h, api.ErrHandle, l...)
	if !slices.Equal(l, before) {
		t.Fatalf("Write wrote into its list: %#v", l)
	}
}

// spoil writes over a list and over its spare room.
func spoil(l []api.Pair) {
	l = l[:cap(l)]
	for i := range l {
		l[i] = api.Pair{Key: "?", Value: "spoilt"}
	}
}

func TestScannedListsAreTheCallers(t *testing.T) {
	s := newStore(t, greatest())
	committed(t, s, put("a", "1"), put("b", "2"), put("c", "3"))
	h := begin(t, s)
	wantWrite(t, s, h, api.OK, put("d", "4"), put("e", "5"))
	want := []api.Pair{{Key: "a", Value: "1"}, {Key: "b", Value: "2"}, {Key: "c", Value: "3"}, {Key: "d", Value: "4"}, {Key: "e", Value: "5"}}
	first, _ := s.Scan(h, "", "")
	second, _ := s.Scan(h, "", "")
	part, _ := s.Scan(h, "b", "d")
	spoil(first)
	if !slices.Equal(second, want) || !slices.Equal(part, want[1:3]) {
		t.Fatalf("lists share room: %q, %q", second, part)
	}
	spoil(part)
	if !slices.Equal(second, want) {
		t.Fatalf("lists share room: %q", second)
	}
	spoil(second)
	wantScan(t, s, h, "", "", "a", "1", "b", "2", "c", "3", "d", "4", "e", "5")
	wantCommit(t, s, h, api.OK)
	wantScan(t, s, begin(t, s), "", "", "a", "1", "b", "2", "c", "3", "d", "4", "e", "5")
}

// Callers at the same time: each handle comes once, and each finds its own writes.
func TestCallsAreUnderOneMutex(t *testing.T) {
	const callers, rounds = 8, 400
	s := newStore(t, greatest())
	handles := make([][]int, callers)
	var all sync.WaitGroup
	for i := range callers {
		all.Add(1)
		go func() {
			defer all.Done()
			key := string(rune('a' + i))
			for range rounds {
				h, e := s.Begin()
				if e != api.OK {
					t.Errorf("Begin = %d", e)
					return
				}
				handles[i] = append(handles[i], h)
				if e := s.Write(h, put(key, key)); e != api.OK {
					t.Errorf("Write = %d", e)
				}
				if l, e := s.Scan(h, key, ""); e != api.OK || len(l) != 1 || l[0].Value != key {
					t.Errorf("Scan = %q, %d", l, e)
				}
				if v, there, e := s.Get(h, key); v != key || !there || e != api.OK {
					t.Errorf("Get = %q, %v, %d", v, there, e)
				}
				if x, e := s.Look(h); x.Writes != 1 || x.Reads != 1 || e != api.OK {
					t.Errorf("Look = %+v, %d", x, e)
				}
				s.Cleanup()
				if c := s.Told(); c.Active < 1 || c.Active > callers {
					t.Errorf("Told = %+v", c)
				}
				if e := s.Abort(h); e != api.OK {
					t.Errorf("Abort = %d", e)
				}
			}
		}()
	}
	all.Wait()
	told := slices.Concat(handles...)
	slices.Sort(told)
	for i, h := range told {
		if h != i+1 {
			t.Fatalf("handle %d in place of %d", h, i+1)
		}
	}
	if len(told) != callers*rounds {
		t.Fatalf("%d handles", len(told))
	}
}
