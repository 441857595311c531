package seriate

import (
	"strings"

	"seriate/api"
)

// txn: the record of a transaction.
type txn struct {
	handle  int
	begin   int
	commit  int                // 0 while it is active: the first Commit is 1
	writes  map[string]content // by key
	reads   map[entry]struct{}
	in, out bool
	place   int // in the heap, while it is active
}

// content of a key: a value, or it is gone.
type content struct {
	value string
	gone  bool
}

// entry of the reads: a key, which stands as lo, or a range.
type entry struct {
	ranged bool
	lo, hi string
}

func newTxn(handle int, begin int) *txn {
	return &txn{handle: handle, begin: begin, writes: map[string]content{}, reads: map[entry]struct{}{}}
}

func (t *txn) isActive() bool { return t.commit == 0 }

// Keys, values and ends of ranges are cloned where they are kept: what was
// handed in may be a small piece of a great text, which is not to be held.

func keyEntry(key string) entry { return entry{lo: strings.Clone(key)} }

func rangeEntry(lo string, hi string) entry {
	return entry{ranged: true, lo: strings.Clone(lo), hi: strings.Clone(hi)}
}

func contentOf(c api.Change) content {
	if c.Gone {
		return content{gone: true}
	}
	return content{value: strings.Clone(c.Value)}
}

func (t *txn) joinWrites(changes []api.Change) {
	for _, c := range changes {
		t.writes[strings.Clone(c.Key)] = contentOf(c)
	}
}

// keysWith tells how many keys the writes would have behind the changes.
func (t *txn) keysWith(changes []api.Change) int {
	more := map[string]struct{}{}
	for _, c := range changes {
		if _, own := t.writes[c.Key]; !own {
			more[c.Key] = struct{}{}
		}
	}
	return len(t.writes) + len(more)
}

func (c content) told() (string, bool) { return c.value, !c.gone }

func (e entry) covers(key string) bool {
	if !e.ranged {
		return key == e.lo
	}
	return key >= e.lo && (e.hi == "" || key < e.hi)
}
