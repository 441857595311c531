package seriate_test

import (
	"runtime"
	"slices"
	"sync"
	"testing"
	"time"

	"seriate/api"
	"seriate/seriate"
)

func TestRunNeitherChangesNorKeepsItsLists(t *testing.T) {
	s := skewed(t)
	room := script("get x", "add x 1", "commit", "put behind 1", "abort")
	list := [][]api.Ins{room[:3], room[:2], script("put behind 2")}
	schedule := []int{0, 0, 1, 1, 0, 0, 1, 2, 2}
	roomBefore, scheduleBefore := slices.Clone(room), slices.Clone(schedule)
	want := []api.Outcome{
		{Handle: 2, End: 1, Answers: answers("get 0", "add", "commit")},
		{Handle: 3, End: 2, Answers: answers("get 0", "add ErrConflict")},
	}
	wantRun(t, s, list[:2], schedule[:7], want...)
	wantRunErr(t, s, list[:1], schedule, api.ErrSchedule)
	wantRunErr(t, s, append(list[:2:2], make([]api.Ins, 1)), schedule, api.ErrProgram)
	if !slices.Equal(room, roomBefore) || !slices.Equal(schedule, scheduleBefore) {
		t.Fatalf("Run wrote into its lists: %v, %v", room, schedule)
	}
	if len(list[0]) != 3 || len(list[1]) != 2 || &list[0][0] != &room[0] || &list[1][0] != &room[0] || len(list[2]) != 1 {
		t.Fatalf("Run wrote into the list of programs: %v", list)
	}
	clear(room)
	clear(schedule)
	clear(list)
	wantAll(t, s, "x", "01", "y", "0", "z", "0")
}

// ruin writes over a list of outcomes, over the lists in it, and over all spare room.
func ruin(l []api.Outcome) {
	l = l[:cap(l)]
	for i := range l {
		a := l[i].Answers[:cap(l[i].Answers)]
		for k := range a {
			a[k] = api.Answer{Kind: 99, Err: 99, Found: true, Text: "ruined"}
		}
		l[i] = api.Outcome{Handle: 99, End: 99}
	}
}

func TestOutcomesAreTheCallers(t *testing.T) {
	s := skewed(t)
	p := script("get x", "get y", "get z", "get x", "get q")
	all := programs(p[:1], p[:2], p[:3], p[:4], p[:5])
	var schedule []int
	for n := range 30 {
		schedule = append(schedule, n%5)
	}
	want := func(first int) []api.Outcome {
		var l []api.Outcome
		for i := range 5 {
			l = append(l, api.Outcome{Handle: first + i, End: 2, Answers: answers("get 0", "get 0", "get 0", "get 0", "get")[:i+1]})
		}
		return l
	}
	one, _ := s.Run(all, schedule)
	two, _ := s.Run(all, schedule)
	ruin(one)
	if !sameOutcomes(two, want(7)) {
		t.Fatalf("two Runs share room: %+v", two)
	}
	for i := range all {
		l, _ := s.Run(all, schedule)
		rest := want(12 + 5*i)
		rest[i] = api.Outcome{Handle: 99, End: 99}
		ruin(l[i : i+1 : i+1])
		if !sameOutcomes(l, rest) {
			t.Fatalf("client %d shares room with others: %+v", i, l)
		}
	}
	wantRun(t, s, all, schedule, want(37)...)
	wantAll(t, s, "x", "0", "y", "0", "z", "0")
}

// counted: how many goroutines there are, when those that are just ending have ended.
func counted(most int) int {
	n := runtime.NumGoroutine()
	for range 200 {
		if n <= most {
			break
		}
		time.Sleep(time.Millisecond)
		n = runtime.NumGoroutine()
	}
	return n
}

func TestNoGoroutineIsLeft(t *testing.T) {
	before := runtime.NumGoroutine()
	s := newStore(t, api.Config{Txns: 3, Reads: 2, Writes: 1, Versions: 1})
	p := script("put x 1", "get y", "get z", "commit")
	for n := range 100 {
		s.Run(programs(p, p, p, p, p), slices.Repeat([]int{4, 0, 2, 0}, n%20))
		s.Run(programs(p, p, nil), nil)
		wantRunErr(t, s, programs(p, p), []int{2}, api.ErrSchedule)
		wantRunErr(t, s, programs(p, make([]api.Ins, 1)), []int{0}, api.ErrProgram)
	}
	if n := counted(before); n > before {
		t.Fatalf("%d goroutines, %d before", n, before)
	}
}

// What is answered hangs on the schedule alone, not on how goroutines run.
func TestRunAnswersTheSameEachTime(t *testing.T) {
	defer runtime.GOMAXPROCS(runtime.GOMAXPROCS(0))
	p := script("get x", "add y 1", "scan - -", "put x 2", "commit")
	q := script("scan x -", "add x 3", "del y", "commit")
	var schedule []int
	for n := range 60 {
		schedule = append(schedule, n*n%7%5)
	}
	var want []api.Outcome
	for n := range 400 {
		runtime.GOMAXPROCS(1 + n%8)
		s := skewed(t)
		l, e := s.Run(programs(p, q, p, q, p), schedule)
		if want == nil {
			want = l
		}
		if e != api.OK || !sameOutcomes(l, want) {
			t.Fatalf("Run = %+v, %d, was %+v", l, e, want)
		}
	}
}

// Run is one call: none of another goroutine's comes between two turns of it.
func TestRunsAtTheSameTime(t *testing.T) {
	const callers, rounds = 6, 60
	s := newStore(t, greatest())
	var all sync.WaitGroup
	for range callers {
		all.Add(1)
		go func() {
			defer all.Done()
			for range rounds {
				runTwoInTurn(t, s)
				s.Cleanup()
				if c := s.Told(); c.Active != 0 {
					t.Errorf("Told = %+v within a Run", c)
				}
			}
		}()
	}
	all.Wait()
	if c := s.Told(); c.Clock != 2*callers*rounds {
		t.Fatalf("Told = %+v", c)
	}
}

// runTwoInTurn: where the two begin and end one behind the other, both commit.
func runTwoInTurn(t *testing.T, s *seriate.Store) {
	p := script("scan - -", "put x 1", "get y", "add y 1", "commit")
	l, e := s.Run(programs(p, p), append(turns(0, 6), turns(1, 6)...))
	if e != api.OK || l[0].End != api.Committed || l[1].End != api.Committed || l[1].Handle != l[0].Handle+1 {
		t.Errorf("Run = %+v, %d", l, e)
	}
}
