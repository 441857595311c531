package seriate_test

import (
	"maps"
	"math/rand"
	"slices"
	"strings"
	"testing"

	"seriate/api"
	"seriate/seriate"
)

// guest: a client of the model.
type guest struct {
	rest  []api.Ins
	last  string
	found bool
	over  bool
}

// run does what P12 and P13 say, word by word, in one loop.
func (m *model) run(programs [][]api.Ins, schedule []int) []api.Outcome {
	guests, l := make([]guest, len(programs)), make([]api.Outcome, len(programs))
	for i, p := range programs {
		guests[i].rest = p
	}
	for _, n := range schedule {
		if !guests[n].over {
			m.turn(&guests[n], &l[n])
		}
	}
	for i := range l {
		if m.abort(l[i].Handle) == api.OK {
			l[i].End = api.Aborted
		}
	}
	return l
}

func (m *model) turn(g *guest, o *api.Outcome) {
	if o.Handle == 0 {
		h, e := m.begin()
		o.Handle, g.over = h, e == api.ErrFull
		return
	}
	if len(g.rest) == 0 {
		return
	}
	i := g.rest[0]
	g.rest = g.rest[1:]
	a := api.Answer{Kind: i.Kind}
	switch i.Kind {
	case api.Get:
		a.Text, a.Found, a.Err = m.get(o.Handle, i.Key)
	case api.Put:
		a.Err = m.write(o.Handle, []api.Change{put(i.Key, i.Value)})
	case api.Add:
		a.Err = m.write(o.Handle, []api.Change{put(i.Key, firstEight(g.last+i.Value))})
	case api.Del:
		a.Err = m.write(o.Handle, []api.Change{gone(i.Key)})
	case api.Scan:
		var l []api.Pair
		l, a.Err = m.scan(o.Handle, i.Key, i.Value)
		a.Found, a.Text = len(l) > 0, firstEight(values(l))
	case api.Skip:
		if g.found {
			g.rest = g.rest[min(len(g.rest), i.N):]
		}
	case api.Commit:
		if a.Err = m.commit(o.Handle); a.Err == api.OK {
			o.End = api.Committed
		}
	case api.Abort:
		a.Err = m.abort(o.Handle)
	}
	if a.Err == api.OK && (i.Kind == api.Get || i.Kind == api.Scan) {
		g.last, g.found = a.Text, a.Found
	}
	o.Answers = append(o.Answers, a)
	if m.active[o.Handle] == nil {
		g.over = true
		if o.End != api.Committed {
			o.End = api.Aborted
		}
	}
}

func firstEight(text string) string {
	if len(text) > 8 {
		return text[:8]
	}
	return text
}

func values(l []api.Pair) string {
	var b strings.Builder
	for _, p := range l {
		b.WriteString(p.Value)
	}
	return b.String()
}

// anyProgram draws one of up to 12 instructions, some of them with wrong keys or values.
func anyProgram(r *rand.Rand) []api.Ins {
	var l []api.Ins
	often := []int{api.Get, api.Get, api.Get, api.Scan, api.Scan, api.Put, api.Add, api.Del, api.Skip}
	for range r.Intn(13) {
		i := api.Ins{Kind: often[r.Intn(len(often))], Key: modelKeys[r.Intn(6)], Value: "123456789"[:r.Intn(10)], N: r.Intn(3)}
		if r.Intn(16) == 0 {
			i.Key = anyKey(r)
		}
		switch {
		case i.Kind == api.Scan:
			i.Value = anyKey(r)
		case r.Intn(8) == 0:
			i.Kind = api.Commit + r.Intn(2)
		case r.Intn(40) == 0:
			i.N = 12
		}
		l = append(l, i)
	}
	return l
}

func anySchedule(r *rand.Rand, programs int, most int) []int {
	var l []int
	for range r.Intn(most+1) * min(1, programs) {
		l = append(l, r.Intn(programs))
	}
	return l
}

// Runs, and calls of other transactions between them, answer as the model does.
func TestRunAnswersAsTheModel(t *testing.T) {
	ends := [3]int{}
	errs := map[api.Errno]int{}
	for seed := range int64(2000) {
		r := rand.New(rand.NewSource(seed))
		c := greatest()
		if seed%2 == 0 {
			c = api.Config{Txns: 1 + r.Intn(8), Reads: 1 + r.Intn(12), Writes: 1 + r.Intn(5), Versions: 1 + r.Intn(12)}
		}
		s, m := newStore(t, c), newModel(c)
		for range 8 {
			for range r.Intn(12) {
				step(t, r, s, m)
			}
			var l [][]api.Ins
			for range r.Intn(6) {
				l = append(l, anyProgram(r))
			}
			schedule := anySchedule(r, len(l), 100)
			want := m.run(l, schedule)
			wantRun(t, s, l, schedule, want...)
			compareAll(t, s, m)
			for _, o := range want {
				ends[o.End]++
				for _, a := range o.Answers {
					errs[a.Err]++
				}
			}
		}
	}
	if slices.Min(ends[:]) < 1000 || min(errs[api.ErrFull], errs[api.ErrConflict], errs[api.ErrUnsafe]) < 200 {
		t.Fatalf("ends %v, errors %v: these programs test little", ends, errs)
	}
}

// alone runs a program on what is there, with nobody beside it, till it
// commits, and tells what that leaves.
func alone(p []api.Ins, there map[string]string) ([]api.Answer, map[string]string) {
	there = maps.Clone(there)
	var l []api.Answer
	var last api.Answer
	for n := 0; n < len(p); n++ {
		i, a := p[n], api.Answer{Kind: p[n].Kind}
		switch i.Kind {
		case api.Get:
			a.Text, a.Found = there[i.Key]
			last = a
		case api.Scan:
			found := pairsOf(there, i.Key, i.Value)
			a.Text, a.Found = firstEight(values(found)), len(found) > 0
			last = a
		case api.Put:
			there[i.Key] = i.Value
		case api.Add:
			there[i.Key] = firstEight(last.Text + i.Value)
		case api.Del:
			delete(there, i.Key)
		case api.Skip:
			if last.Found {
				n += i.N
			}
		}
		l = append(l, a)
		if i.Kind == api.Commit {
			break
		}
	}
	return l, there
}

// isOrdered looks for an order of the programs, each alone, that answers what
// they were answered, and leads from what is there to the end.
func isOrdered(programs [][]api.Ins, got [][]api.Answer, there map[string]string, end []api.Pair) bool {
	if len(programs) == 0 {
		return slices.Equal(pairsOf(there, "", ""), end)
	}
	for i, p := range programs {
		l, behind := alone(p, there)
		if !slices.Equal(l, got[i]) {
			continue
		}
		if isOrdered(slices.Delete(slices.Clone(programs), i, i+1), slices.Delete(slices.Clone(got), i, i+1), behind, end) {
			return true
		}
	}
	return false
}

// fineProgram draws one whose instructions fail only if the store aborts it.
func fineProgram(r *rand.Rand, keys []string) []api.Ins {
	var l []api.Ins
	for range 1 + r.Intn(5) {
		i := api.Ins{Kind: 1 + r.Intn(6), Key: keys[r.Intn(len(keys))], Value: string(rune('a' + r.Intn(26))), N: r.Intn(3)}
		if i.Kind == api.Scan {
			i.Key, i.Value = keys[0], []string{"", keys[0] + "a"}[r.Intn(2)]
		}
		l = append(l, i)
	}
	return append(l, script("commit", "commit", "commit")...)
}

func finePrograms(r *rand.Rand, n int) [][]api.Ins {
	keys := []string{"x", "y", "z", "q"}[:1+r.Intn(4)]
	var l [][]api.Ins
	for range n {
		l = append(l, fineProgram(r, keys))
	}
	return l
}

// committedOf tells those programs that committed, with what they were answered.
func committedOf(programs [][]api.Ins, outcomes []api.Outcome) (l [][]api.Ins, got [][]api.Answer) {
	for i, o := range outcomes {
		if o.End == api.Committed {
			l, got = append(l, programs[i]), append(got, o.Answers)
		}
	}
	return l, got
}

// P14: the clients that commit have an order.
func TestCommittedClientsHaveAnOrder(t *testing.T) {
	unsafe, committedOnes := 0, 0
	for seed := range int64(5000) {
		r := rand.New(rand.NewSource(seed))
		s := skewed(t)
		l := finePrograms(r, 2+r.Intn(4))
		schedule := anySchedule(r, len(l), 100)
		outcomes, e := s.Run(l, schedule)
		if e != api.OK {
			t.Fatalf("Run = %d", e)
		}
		end, _ := s.Scan(begin(t, s), "", "")
		done, got := committedOf(l, outcomes)
		if !isOrdered(done, got, map[string]string{"x": "0", "y": "0", "z": "0"}, end) {
			t.Fatalf("seed %d: no order of %+v, %v leaves %v", seed, outcomes, schedule, end)
		}
		committedOnes += len(done)
		for _, o := range outcomes {
			if slices.ContainsFunc(o.Answers, func(a api.Answer) bool { return a.Err == api.ErrUnsafe }) {
				unsafe++
			}
		}
	}
	if unsafe < 500 || committedOnes < 5000 {
		t.Fatalf("%d unsafe, %d committed: these programs test little", unsafe, committedOnes)
	}
}

// P16: clients whose turns lie one behind the other all commit, each as if alone.
func TestClientsOneBehindTheOtherAllCommit(t *testing.T) {
	for seed := range int64(500) {
		r := rand.New(rand.NewSource(seed))
		s, there := skewed(t), map[string]string{"x": "0", "y": "0", "z": "0"}
		l := finePrograms(r, 5)
		order := r.Perm(5)
		var schedule []int
		want := make([]api.Outcome, 5)
		for k, n := range order {
			schedule = append(schedule, turns(n, 12)...)
			want[n] = api.Outcome{Handle: 2 + k, End: api.Committed}
			want[n].Answers, there = alone(l[n], there)
		}
		wantRun(t, s, l, schedule, want...)
		if end, _ := s.Scan(begin(t, s), "", ""); !slices.Equal(end, pairsOf(there, "", "")) {
			t.Fatalf("seed %d: %v is left, want %v", seed, end, there)
		}
	}
}

// P16: clients that write nothing all commit, however they lie beside one another.
func TestClientsThatReadAllCommit(t *testing.T) {
	p := script("get x", "scan - -", "get n", "scan x y", "skip 1", "abort", "commit")
	for seed := range int64(200) {
		r := rand.New(rand.NewSource(seed))
		var schedule []int
		for n := range 5 {
			schedule = append(schedule, turns(n, 8)...)
		}
		r.Shuffle(len(schedule), func(i int, k int) { schedule[i], schedule[k] = schedule[k], schedule[i] })
		l, e := skewed(t).Run(programs(p, p, p, p, p), schedule)
		if len(l) != 5 || e != api.OK {
			t.Fatalf("Run = %+v, %d", l, e)
		}
		for _, o := range l {
			if o.End != api.Committed || !slices.Equal(o.Answers, answers("get 0", "scan 000", "get", "scan 0", "skip", "commit")) {
				t.Fatalf("Run = %+v", l)
			}
		}
	}
}

// P17: one store is cleaned up between Runs, the other never.
func TestCleanupIsNotSeenByClients(t *testing.T) {
	runs := 0
	for seed := range int64(300) {
		r := rand.New(rand.NewSource(seed))
		cleaned, other := newStore(t, greatest()), newStore(t, greatest())
		// an old transaction holds the mark back for a while
		for _, s := range []*seriate.Store{cleaned, other} {
			h := begin(t, s)
			wantNone(t, s, h, "x")
		}
		for n := range 8 {
			if r.Intn(2) == 0 {
				cleaned.Cleanup()
			}
			if n == 4 {
				if a, b := cleaned.Commit(1), other.Commit(1); a != b {
					t.Fatalf("seed %d: Commit = %d, want %d", seed, a, b)
				}
			}
			l := finePrograms(r, 5)
			schedule := anySchedule(r, 5, 60)
			got, _ := cleaned.Run(l, schedule)
			want, _ := other.Run(l, schedule)
			if isFull(got, schedule) || isFull(want, schedule) {
				break
			}
			if !sameOutcomes(got, want) {
				t.Fatalf("seed %d: Run = %+v, want %+v", seed, got, want)
			}
			runs++
		}
	}
	if runs < 1000 {
		t.Fatalf("only %d Runs before one was full", runs)
	}
}

// isFull tells whether something was answered ErrFull, a Begin with it.
func isFull(l []api.Outcome, schedule []int) bool {
	for i, o := range l {
		if o.Handle == 0 && slices.Contains(schedule, i) {
			return true
		}
		if slices.ContainsFunc(o.Answers, func(a api.Answer) bool { return a.Err == api.ErrFull }) {
			return true
		}
	}
	return false
}
