package seriate_test

import (
	"maps"
	"math/rand"
	"slices"
	"testing"

	"seriate/api"
	"seriate/seriate"
)

// model does what P3 to P11 say, word by word: it keeps a whole copy of what is
// there for each transaction, and works out all else anew in each call.
type model struct {
	config   api.Config
	handles  int
	clock    int
	there    map[string]string
	changed  map[string]int // by key: the Commit that wrote it last
	versions []stamp
	active   map[int]*plain
	kept     []*plain
}

// stamp of a version.
type stamp struct {
	key    string
	commit int
	gone   bool
}

type plain struct {
	begin   int
	commit  int
	in, out bool
	saw     map[string]string
	writes  map[string]api.Change
	reads   map[[3]string]bool
}

func newModel(c api.Config) *model {
	return &model{config: c, there: map[string]string{}, changed: map[string]int{}, active: map[int]*plain{}}
}

func (m *model) begin() (int, api.Errno) {
	if len(m.active)+len(m.kept) == m.config.Txns {
		return 0, api.ErrFull
	}
	m.handles++
	m.active[m.handles] = &plain{begin: m.clock, saw: maps.Clone(m.there), writes: map[string]api.Change{}, reads: map[[3]string]bool{}}
	return m.handles, api.OK
}

func (m *model) records() []*plain {
	return slices.Concat(m.kept, slices.Collect(maps.Values(m.active)))
}

func (m *model) countReads() int {
	n := 0
	for _, q := range m.records() {
		n += len(q.reads)
	}
	return n
}

// isIn tells whether a key is in an entry of reads.
func isIn(key string, entry [3]string) bool {
	if entry[0] == "key" {
		return key == entry[1]
	}
	return entry[1] <= key && (entry[2] == "" || key < entry[2])
}

func (m *model) read(h int, entry [3]string) api.Errno {
	p := m.active[h]
	if !p.reads[entry] && m.countReads() == m.config.Reads {
		return api.ErrFull
	}
	p.reads[entry] = true
	var past []*plain
	for _, q := range m.records() {
		for key := range q.writes {
			if q != p && (q.commit == 0 || q.commit > p.begin) && isIn(key, entry) {
				past = append(past, q)
			}
		}
	}
	for _, q := range past {
		if q.commit > 0 && q.out {
			return m.unsafe(h)
		}
	}
	for _, q := range past {
		p.out, q.in = true, true
	}
	return api.OK
}

func (m *model) unsafe(h int) api.Errno {
	delete(m.active, h)
	return api.ErrUnsafe
}

func (p *plain) sees() map[string]string {
	all := maps.Clone(p.saw)
	for key, c := range p.writes {
		if delete(all, key); !c.Gone {
			all[key] = c.Value
		}
	}
	return all
}

func (m *model) get(h int, key string) (string, bool, api.Errno) {
	p := m.active[h]
	if p == nil {
		return "", false, api.ErrHandle
	}
	if key == "" || len(key) > 4 {
		return "", false, api.ErrKey
	}
	if _, own := p.writes[key]; !own {
		if e := m.read(h, [3]string{"key", key}); e != api.OK {
			return "", false, e
		}
	}
	value, there := p.sees()[key]
	return value, there, api.OK
}

func (m *model) scan(h int, lo string, hi string) ([]api.Pair, api.Errno) {
	p := m.active[h]
	if p == nil {
		return nil, api.ErrHandle
	}
	if len(lo) > 4 || len(hi) > 4 {
		return nil, api.ErrKey
	}
	if hi != "" && lo >= hi {
		return nil, api.ErrRange
	}
	if e := m.read(h, [3]string{"range", lo, hi}); e != api.OK {
		return nil, e
	}
	var l []api.Pair
	all := p.sees()
	for _, key := range slices.Sorted(maps.Keys(all)) {
		if lo <= key && (hi == "" || key < hi) {
			l = append(l, api.Pair{Key: key, Value: all[key]})
		}
	}
	return l, api.OK
}

func (m *model) write(h int, changes []api.Change) api.Errno {
	p := m.active[h]
	if p == nil {
		return api.ErrHandle
	}
	behind := maps.Clone(p.writes)
	for _, c := range changes {
		if c.Key == "" || len(c.Key) > 4 {
			return api.ErrKey
		}
		if len(c.Value) > 8 {
			return api.ErrValue
		}
		behind[c.Key] = c
	}
	if len(behind) > m.config.Writes {
		return api.ErrFull
	}
	for _, c := range changes {
		for g, q := range m.active {
			if _, held := q.writes[c.Key]; held && g != h {
				delete(m.active, h)
				return api.ErrConflict
			}
		}
		if m.changed[c.Key] > p.begin {
			delete(m.active, h)
			return api.ErrConflict
		}
	}
	if e := m.passed(h, changes); e != api.OK {
		return e
	}
	p.writes = behind
	return api.OK
}

func (m *model) passed(h int, changes []api.Change) api.Errno {
	p := m.active[h]
	var readers []*plain
	for _, q := range m.records() {
		for entry := range q.reads {
			for _, c := range changes {
				if q != p && (q.commit == 0 || q.commit > p.begin) && isIn(c.Key, entry) {
					readers = append(readers, q)
				}
			}
		}
	}
	for _, q := range readers {
		if q.commit > 0 && q.in {
			return m.unsafe(h)
		}
	}
	for _, q := range readers {
		q.out, p.in = true, true
	}
	return api.OK
}

func (m *model) commit(h int) api.Errno {
	p := m.active[h]
	if p == nil {
		return api.ErrHandle
	}
	if p.in && p.out {
		return m.unsafe(h)
	}
	if len(m.versions)+len(p.writes) > m.config.Versions {
		return api.ErrFull
	}
	delete(m.active, h)
	m.kept = append(m.kept, p)
	m.clock++
	p.commit = m.clock
	for key, c := range p.writes {
		m.versions = append(m.versions, stamp{key, m.clock, c.Gone})
		m.changed[key] = m.clock
		if delete(m.there, key); !c.Gone {
			m.there[key] = c.Value
		}
	}
	return api.OK
}

func (m *model) abort(h int) api.Errno {
	if m.active[h] == nil {
		return api.ErrHandle
	}
	delete(m.active, h)
	return api.OK
}

func (m *model) cleanup() {
	mark := m.clock
	for _, p := range m.active {
		mark = min(mark, p.begin)
	}
	m.kept = slices.DeleteFunc(m.kept, func(p *plain) bool { return p.commit <= mark })
	all := slices.Clone(m.versions)
	m.versions = slices.DeleteFunc(m.versions, func(v stamp) bool {
		newer := func(w stamp) bool { return w.key == v.key && w.commit > v.commit && w.commit <= mark }
		return v.commit <= mark && (v.gone || slices.ContainsFunc(all, newer))
	})
}

func (m *model) look(h int) (api.Txn, api.Errno) {
	p := m.active[h]
	if p == nil {
		return api.Txn{}, api.ErrHandle
	}
	return api.Txn{Begin: p.begin, In: p.in, Out: p.out, Reads: len(p.reads), Writes: len(p.writes)}, api.OK
}

func (m *model) told() api.Counts {
	return api.Counts{Clock: m.clock, Active: len(m.active), Kept: len(m.kept), Reads: m.countReads(), Versions: len(m.versions)}
}

var modelKeys = []string{"a", "b", "ba", "c", "\xff", "abcd", "a", "b", "ba", "c", "", "abcde"}

func anyKey(r *rand.Rand) string { return modelKeys[r.Intn(len(modelKeys))] }

func anyChanges(r *rand.Rand) []api.Change {
	var l []api.Change
	for range r.Intn(4) {
		value := "123456789"[:r.Intn(9)]
		if r.Intn(20) == 0 {
			value = "123456789"
		}
		l = append(l, api.Change{Key: anyKey(r), Value: value, Gone: r.Intn(4) == 0})
	}
	return l
}

// answer of a call: what of it there is.
type answer struct {
	value string
	there bool
	h     int
	e     api.Errno
}

// step makes one call of both, and holds what they answer against each other.
func step(t *testing.T, r *rand.Rand, s *seriate.Store, m *model) {
	t.Helper()
	h := r.Intn(m.handles+2) - 1
	if live := slices.Sorted(maps.Keys(m.active)); len(live) > 0 && r.Intn(8) > 0 {
		h = live[r.Intn(len(live))]
	}
	var got, want answer
	switch r.Intn(15) {
	case 0, 1, 2:
		got.h, got.e = s.Begin()
		want.h, want.e = m.begin()
	case 3, 4, 5:
		key := anyKey(r)
		got.value, got.there, got.e = s.Get(h, key)
		want.value, want.there, want.e = m.get(h, key)
	case 6, 7:
		lo, hi := anyKey(r), anyKey(r)
		var l1, l2 []api.Pair
		l1, got.e = s.Scan(h, lo, hi)
		l2, want.e = m.scan(h, lo, hi)
		if !slices.Equal(l1, l2) {
			t.Fatalf("Scan(%d, %q, %q) = %q, want %q", h, lo, hi, l1, l2)
		}
	case 8, 9, 10:
		l := anyChanges(r)
		got.e, want.e = s.Write(h, l...), m.write(h, l)
	case 11, 12:
		got.e, want.e = s.Commit(h), m.commit(h)
	case 13:
		got.e, want.e = s.Abort(h), m.abort(h)
	case 14:
		s.Cleanup()
		m.cleanup()
	}
	if got != want {
		t.Fatalf("handle %d: answered %+v, want %+v", h, got, want)
	}
	compareAll(t, s, m)
}

// compareAll holds all that Look and Told tell against the model.
func compareAll(t *testing.T, s *seriate.Store, m *model) {
	t.Helper()
	wantTold(t, s, m.told())
	for h := range m.handles + 2 {
		x1, e1 := s.Look(h)
		x2, e2 := m.look(h)
		if x1 != x2 || e1 != e2 {
			t.Fatalf("Look(%d) = %+v, %d, want %+v, %d", h, x1, e1, x2, e2)
		}
	}
}

func TestStoreAnswersAsTheModel(t *testing.T) {
	for seed := range int64(3000) {
		r := rand.New(rand.NewSource(seed))
		c := greatest()
		if seed%2 == 0 {
			c = api.Config{Txns: 1 + r.Intn(8), Reads: 1 + r.Intn(12), Writes: 1 + r.Intn(5), Versions: 1 + r.Intn(12)}
		}
		s, m := newStore(t, c), newModel(c)
		for range 120 {
			step(t, r, s, m)
		}
	}
}
