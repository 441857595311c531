package seriate_test

import (
	"maps"
	"math/rand"
	"slices"
	"testing"

	"seriate/api"
	"seriate/seriate"
)

// deed of a transaction: a read with what it answered, or a Write.
type deed struct {
	lo, hi  string // a read of one key has it as lo, and hi is the next text
	answer  []api.Pair
	changes []api.Change
}

// run of a transaction: its deeds, in their order.
type run []deed

// doneOn does the run on what is there, and tells whether all reads answer the same.
func (l run) doneOn(there map[string]string) (map[string]string, bool) {
	there = maps.Clone(there)
	for _, d := range l {
		for _, c := range d.changes {
			if delete(there, c.Key); !c.Gone {
				there[c.Key] = c.Value
			}
		}
		if d.changes == nil && !slices.Equal(pairsOf(there, d.lo, d.hi), d.answer) {
			return nil, false
		}
	}
	return there, true
}

func pairsOf(there map[string]string, lo string, hi string) []api.Pair {
	var l []api.Pair
	for _, key := range slices.Sorted(maps.Keys(there)) {
		if lo <= key && (hi == "" || key < hi) {
			l = append(l, api.Pair{Key: key, Value: there[key]})
		}
	}
	return l
}

// hasOrder looks for an order of the runs that leads from what is there to the end.
func hasOrder(runs []run, there map[string]string, end []api.Pair) bool {
	if len(runs) == 0 {
		return slices.Equal(pairsOf(there, "", ""), end)
	}
	for i, l := range runs {
		if behind, same := l.doneOn(there); same {
			if hasOrder(slices.Delete(slices.Clone(runs), i, i+1), behind, end) {
				return true
			}
		}
	}
	return false
}

// history of a store: what active transactions have done, and what committed ones had.
type history struct {
	s         *seriate.Store
	active    map[int]run
	committed []run
	unsafe    int
}

// act lets one of some transactions read, write or end, as r says.
func (y *history) act(r *rand.Rand, keys []string) {
	live := slices.Sorted(maps.Keys(y.active))
	if len(live) < 2 || len(live) < 4 && r.Intn(6) == 0 {
		if h, e := y.s.Begin(); e == api.OK {
			y.active[h] = nil
		}
		return
	}
	h := live[r.Intn(len(live))]
	d := deed{lo: keys[r.Intn(len(keys))]}
	d.hi = d.lo + "\x00"
	var e api.Errno
	switch r.Intn(8) {
	case 0, 1, 2:
		var value string
		var there bool
		if value, there, e = y.s.Get(h, d.lo); there {
			d.answer = []api.Pair{{Key: d.lo, Value: value}}
		}
	case 3:
		d.hi = ""
		d.answer, e = y.s.Scan(h, d.lo, "")
	case 4, 5:
		d.changes = []api.Change{{Key: d.lo, Value: string(rune('a' + r.Intn(26))), Gone: r.Intn(4) == 0}}
		e = y.s.Write(h, d.changes...)
	case 6:
		if e = y.s.Commit(h); e == api.OK {
			y.committed = append(y.committed, y.active[h])
			delete(y.active, h)
			return
		}
	case 7:
		if r.Intn(6) == 0 {
			y.s.Cleanup()
		}
		return
	}
	switch e {
	case api.OK:
		y.active[h] = append(y.active[h], d)
	case api.ErrUnsafe:
		y.unsafe++
		delete(y.active, h)
	case api.ErrConflict:
		delete(y.active, h)
	}
}

// P14: what has committed is as if one had run behind the other.
func TestCommittedOnesHaveAnOrder(t *testing.T) {
	unsafe := 0
	for seed := range int64(4000) {
		r := rand.New(rand.NewSource(seed))
		y := &history{s: newStore(t, greatest()), active: map[int]run{}}
		keys := []string{"x", "y", "z", "q"}[:2+r.Intn(3)]
		for n := 0; n < 60 && len(y.committed) < 8; n++ {
			y.act(r, keys)
		}
		for h := range y.active {
			wantAbort(t, y.s, h, api.OK)
		}
		y.s.Cleanup()
		end, _ := y.s.Scan(begin(t, y.s), "", "")
		if !hasOrder(y.committed, map[string]string{}, end) {
			t.Fatalf("seed %d: no order of %+v leaves %+v", seed, y.committed, end)
		}
		unsafe += y.unsafe
	}
	if unsafe < 1000 {
		t.Fatalf("only %d were unsafe: these histories test little", unsafe)
	}
}

// P16: where no two overlap, none is aborted by the store.
func TestOneBehindTheOtherIsNeverAborted(t *testing.T) {
	s := newStore(t, greatest())
	r := rand.New(rand.NewSource(1))
	for n := range 500 {
		h := begin(t, s)
		for range 8 {
			if _, _, e := s.Get(h, anyKey(r)); e != api.OK && e != api.ErrKey {
				t.Fatalf("Get = %d", e)
			}
			if _, e := s.Scan(h, "", ""); e != api.OK {
				t.Fatalf("Scan = %d", e)
			}
			wantWrite(t, s, h, api.OK, put(modelKeys[r.Intn(6)], "1"), gone(modelKeys[r.Intn(6)]))
		}
		wantMarks(t, s, h, false, false)
		if n%3 == 0 {
			wantAbort(t, s, h, api.OK)
		} else {
			wantCommit(t, s, h, api.OK)
		}
		if n%4 == 0 {
			s.Cleanup()
		}
	}
}

// P16: those that write nothing, and overlap none that writes, all commit.
func TestReadersAloneAreNeverAborted(t *testing.T) {
	s, _ := late(t, 0)
	var l []int
	for range 8 {
		h := begin(t, s)
		l = append(l, h)
		wantScan(t, s, h, "", "", "x", "0", "y", "1", "z", "1")
		wantGet(t, s, h, "z", "1")
		wantWrite(t, s, h, api.OK)
	}
	for _, h := range l {
		wantGet(t, s, h, "y", "1")
		wantMarks(t, s, h, false, false)
		wantCommit(t, s, h, api.OK)
	}
}

// P17: one store is cleaned up now and then, the other never.
func TestCleanupIsNotSeen(t *testing.T) {
	for seed := range int64(300) {
		r := rand.New(rand.NewSource(seed))
		cleaned, other := newStore(t, greatest()), newStore(t, greatest())
		begun := 0
		for range 80 {
			if r.Intn(3) == 0 {
				cleaned.Cleanup()
			}
			h, next := begun-r.Intn(5), r.Int63()
			got, want := oneCall(next, cleaned, h), oneCall(next, other, h)
			if got.e == api.ErrFull || want.e == api.ErrFull {
				break
			}
			if got.answer != want.answer || !slices.Equal(got.pairs, want.pairs) || got.txn != want.txn {
				t.Fatalf("seed %d: answered %+v, want %+v", seed, got, want)
			}
			begun = max(begun, got.h)
		}
	}
}

// told of a call: all of what it answered.
type told struct {
	answer
	pairs []api.Pair
	txn   api.Txn
}

func oneCall(seed int64, s *seriate.Store, h int) (x told) {
	r := rand.New(rand.NewSource(seed))
	switch r.Intn(8) {
	case 0, 1:
		x.h, x.e = s.Begin()
	case 2, 3:
		x.value, x.there, x.e = s.Get(h, modelKeys[r.Intn(4)])
	case 4:
		x.pairs, x.e = s.Scan(h, modelKeys[r.Intn(4)], "")
	case 5:
		x.e = s.Write(h, put(modelKeys[r.Intn(4)], "1"), gone(modelKeys[r.Intn(4)]))
	case 6:
		x.e = s.Commit(h)
	case 7:
		x.txn, x.e = s.Look(h)
	}
	return x
}

// span of a committed transaction, and the keys that it wrote.
type span struct {
	begin, commit int
	keys          map[string]bool
}

func (a span) meets(b span) bool { return a.begin < b.commit && b.begin < a.commit }

// P15: no two committed transactions that overlapped have written one key.
func TestOverlappingOnesHaveWrittenApart(t *testing.T) {
	met := 0
	for seed := range int64(300) {
		r := rand.New(rand.NewSource(seed))
		s := newStore(t, greatest())
		active := map[int]span{}
		var done []span
		for range 60 {
			h, e := s.Begin()
			if e == api.OK {
				active[h] = span{begin: len(done), keys: map[string]bool{}}
			}
			live := slices.Sorted(maps.Keys(active))
			h = live[r.Intn(len(live))]
			key := modelKeys[r.Intn(6)]
			if s.Write(h, put(key, "1")) != api.OK {
				delete(active, h)
				continue
			}
			active[h].keys[key] = true
			if r.Intn(2) == 0 && s.Commit(h) == api.OK {
				done = append(done, span{active[h].begin, len(done) + 1, active[h].keys})
				delete(active, h)
			}
		}
		for i, a := range done {
			for _, b := range done[:i] {
				if !a.meets(b) {
					continue
				}
				met++
				for key := range a.keys {
					if b.keys[key] {
						t.Fatalf("seed %d: %+v and %+v wrote %q", seed, a, b, key)
					}
				}
			}
		}
	}
	if met < 1000 {
		t.Fatalf("only %d pairs overlapped", met)
	}
}
