package seriate_test

import (
	"maps"
	"math/rand"
	"slices"
	"testing"

	"seriate/api"
	"seriate/seriate"
)

// model does what P3 to P9 say by keeping a whole copy of what is there for
// each transaction. It leaves open where the store answers ErrUnsafe.
type model struct {
	config   api.Config
	handles  int
	clock    int
	versions int
	there    map[string]string
	changed  map[string]int // by key: the Commit that wrote it last
	active   map[int]*plain
	kept     []*plain
}

type plain struct {
	begin  int
	saw    map[string]string
	writes map[string]api.Change
	reads  map[[3]string]bool
}

func newModel(c api.Config) *model {
	return &model{config: c, there: map[string]string{}, changed: map[string]int{}, active: map[int]*plain{}}
}

func (m *model) begin() (int, api.Errno) {
	if len(m.active)+len(m.kept) == m.config.Txns {
		return 0, api.ErrFull
	}
	m.handles++
	m.active[m.handles] = &plain{begin: m.clock, saw: maps.Clone(m.there), writes: map[string]api.Change{}, reads: map[[3]string]bool{}}
	return m.handles, api.OK
}

func (m *model) read(p *plain, entry [3]string) api.Errno {
	n := 0
	for _, q := range slices.Concat(m.kept, slices.Collect(maps.Values(m.active))) {
		n += len(q.reads)
	}
	if !p.reads[entry] && n == m.config.Reads {
		return api.ErrFull
	}
	p.reads[entry] = true
	return api.OK
}

func (p *plain) sees() map[string]string {
	all := maps.Clone(p.saw)
	for key, c := range p.writes {
		if delete(all, key); !c.Gone {
			all[key] = c.Value
		}
	}
	return all
}

func (m *model) get(h int, key string) (string, bool, api.Errno) {
	p := m.active[h]
	if p == nil {
		return "", false, api.ErrHandle
	}
	if key == "" || len(key) > 4 {
		return "", false, api.ErrKey
	}
	if _, own := p.writes[key]; !own {
		if e := m.read(p, [3]string{"key", key}); e != api.OK {
			return "", false, e
		}
	}
	value, there := p.sees()[key]
	return value, there, api.OK
}

func (m *model) scan(h int, lo string, hi string) ([]api.Pair, api.Errno) {
	p := m.active[h]
	if p == nil {
		return nil, api.ErrHandle
	}
	if len(lo) > 4 || len(hi) > 4 {
		return nil, api.ErrKey
	}
	if hi != "" && lo >= hi {
		return nil, api.ErrRange
	}
	if e := m.read(p, [3]string{"range", lo, hi}); e != api.OK {
		return nil, e
	}
	var l []api.Pair
	all := p.sees()
	for _, key := range slices.Sorted(maps.Keys(all)) {
		if lo <= key && (hi == "" || key < hi) {
			l = append(l, api.Pair{Key: key, Value: all[key]})
		}
	}
	return l, api.OK
}

func (m *model) write(h int, changes []api.Change) api.Errno {
	p := m.active[h]
	if p == nil {
		return api.ErrHandle
	}
	behind := maps.Clone(p.writes)
	for _, c := range changes {
		if c.Key == "" || len(c.Key) > 4 {
			return api.ErrKey
		}
		if len(c.Value) > 8 {
			return api.ErrValue
		}
		behind[c.Key] = c
	}
	if len(behind) > m.config.Writes {
		return api.ErrFull
	}
	for _, c := range changes {
		for g, q := range m.active {
			if _, held := q.writes[c.Key]; held && g != h {
				delete(m.active, h)
				return api.ErrConflict
			}
		}
		if m.changed[c.Key] > p.begin {
			delete(m.active, h)
			return api.ErrConflict
		}
	}
	p.writes = behind
	return api.OK
}

func (m *model) commit(h int) api.Errno {
	p := m.active[h]
	if p == nil {
		return api.ErrHandle
	}
	if m.versions+len(p.writes) > m.config.Versions {
		return api.ErrFull
	}
	delete(m.active, h)
	m.kept = append(m.kept, p)
	m.clock++
	m.versions += len(p.writes)
	for key, c := range p.writes {
		m.changed[key] = m.clock
		if delete(m.there, key); !c.Gone {
			m.there[key] = c.Value
		}
	}
	return api.OK
}

func (m *model) abort(h int) api.Errno {
	if m.active[h] == nil {
		return api.ErrHandle
	}
	delete(m.active, h)
	return api.OK
}

var modelKeys = []string{"a", "b", "ba", "c", "\xff", "abcd", "a", "b", "ba", "c", "", "abcde"}

func anyKey(r *rand.Rand) string { return modelKeys[r.Intn(len(modelKeys))] }

func anyChanges(r *rand.Rand) []api.Change {
	var l []api.Change
	for range r.Intn(4) {
		value := "123456789"[:r.Intn(9)]
		if r.Intn(20) == 0 {
			value = "123456789"
		}
		l = append(l, api.Change{Key: anyKey(r), Value: value, Gone: r.Intn(4) == 0})
	}
	return l
}

// step makes one call of both, and tells whether they answered the same.
func step(t *testing.T, r *rand.Rand, s *seriate.Store, m *model) {
	t.Helper()
	h := r.Intn(m.handles+2) - 1
	if live := slices.Sorted(maps.Keys(m.active)); len(live) > 0 && r.Intn(8) > 0 {
		h = live[r.Intn(len(live))]
	}
	var got, want any
	var e api.Errno
	switch r.Intn(14) {
	case 0, 1, 2:
		a, e1 := s.Begin()
		b, e2 := m.begin()
		got, want, e = [2]int{a, int(e1)}, [2]int{b, int(e2)}, e1
	case 3, 4, 5:
		type answer struct {
			value string
			there bool
			e     api.Errno
		}
		key := anyKey(r)
		v1, t1, e1 := s.Get(h, key)
		v2, t2, e2 := m.get(h, key)
		got, want, e = answer{v1, t1, e1}, answer{v2, t2, e2}, e1
	case 6, 7:
		lo, hi := anyKey(r), anyKey(r)
		l1, e1 := s.Scan(h, lo, hi)
		l2, e2 := m.scan(h, lo, hi)
		if !slices.Equal(l1, l2) && e1 != api.ErrUnsafe {
			t.Fatalf("Scan(%d, %q, %q) = %q, want %q", h, lo, hi, l1, l2)
		}
		got, want, e = e1, e2, e1
	case 8, 9, 10:
		l := anyChanges(r)
		e = s.Write(h, l...)
		got, want = e, m.write(h, l)
	case 11, 12:
		if e = s.Commit(h); e != api.ErrUnsafe {
			got, want = e, m.commit(h)
		}
	case 13:
		e = s.Abort(h)
		got, want = e, m.abort(h)
	}
	if e == api.ErrUnsafe {
		m.abort(h)
		return
	}
	if got != want {
		t.Fatalf("handle %d: answered %#v, want %#v", h, got, want)
	}
}

func TestStoreAnswersAsTheModel(t *testing.T) {
	for seed := range int64(3000) {
		r := rand.New(rand.NewSource(seed))
		c := greatest()
		if seed%2 == 0 {
			c = api.Config{Txns: 1 + r.Intn(8), Reads: 1 + r.Intn(12), Writes: 1 + r.Intn(5), Versions: 1 + r.Intn(12)}
		}
		s, m := newStore(t, c), newModel(c)
		for range 120 {
			step(t, r, s, m)
		}
	}
}
