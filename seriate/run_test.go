package seriate_test

import (
	"fmt"
	"math"
	"slices"
	"strings"
	"testing"

	"seriate/api"
	"seriate/seriate"
)

var kinds = map[string]int{"get": 1, "put": 2, "add": 3, "del": 4, "scan": 5, "skip": 6, "commit": 7, "abort": 8}

// script makes a program of lines: a kind with a key and a value behind it, or
// with an N. A text that is left out is empty, and so is -.
func script(lines ...string) []api.Ins {
	var l []api.Ins
	for _, line := range lines {
		words := strings.Split(line+"  ", " ")
		i := api.Ins{Kind: kinds[words[0]], Key: strings.Trim(words[1], "-"), Value: strings.Trim(words[2], "-")}
		if words[0] == "skip" {
			fmt.Sscan(i.Key, &i.N)
			i.Key = ""
		}
		l = append(l, i)
	}
	return l
}

// answers makes a list of lines: a kind; with an error behind it, or with a
// text that was found.
func answers(lines ...string) []api.Answer {
	var l []api.Answer
	for _, line := range lines {
		kind, rest, more := strings.Cut(line, " ")
		a := api.Answer{Kind: kinds[kind], Found: more, Text: strings.Trim(rest, "-")}
		if e, fails := errnos[rest]; fails {
			a = api.Answer{Kind: kinds[kind], Err: e}
		}
		l = append(l, a)
	}
	return l
}

var errnos = map[string]api.Errno{"ErrKey": 3, "ErrValue": 4, "ErrRange": 5, "ErrFull": 6, "ErrConflict": 7, "ErrUnsafe": 8}

// turns gives the client n turns.
func turns(client int, n int) []int {
	return slices.Repeat([]int{client}, n)
}

func programs(l ...[]api.Ins) [][]api.Ins { return l }

// wantRun takes the outcomes that are wanted, one for each program.
func wantRun(t *testing.T, s *seriate.Store, programs [][]api.Ins, schedule []int, want ...api.Outcome) {
	t.Helper()
	l, e := s.Run(programs, schedule)
	if !sameOutcomes(l, want) || e != api.OK {
		t.Fatalf("Run(%v, %v) = %+v, %d, want %+v", programs, schedule, l, e, want)
	}
}

func wantRunErr(t *testing.T, s *seriate.Store, programs [][]api.Ins, schedule []int, want api.Errno) {
	t.Helper()
	if l, e := s.Run(programs, schedule); len(l) != 0 || e != want {
		t.Fatalf("Run(%v, %v) = %v, %d, want error %d alone", programs, schedule, l, e, want)
	}
}

func sameOutcomes(l []api.Outcome, want []api.Outcome) bool {
	return slices.EqualFunc(l, want, func(a api.Outcome, b api.Outcome) bool {
		return a.Handle == b.Handle && a.End == b.End && slices.Equal(a.Answers, b.Answers)
	})
}

// wantAll holds what is committed, as keys and values in turn.
func wantAll(t *testing.T, s *seriate.Store, keysAndValues ...string) {
	t.Helper()
	h := begin(t, s)
	wantScan(t, s, h, "", "", keysAndValues...)
	wantAbort(t, s, h, api.OK)
}

func TestRunOfTheExample(t *testing.T) {
	p := script("get x", "add x 1", "commit")
	s := newStore(t, greatest())
	wantRun(t, s, programs(p, p), []int{0, 0, 1, 1, 0, 0, 1},
		api.Outcome{Handle: 1, End: 1, Answers: answers("get", "add", "commit")},
		api.Outcome{Handle: 2, End: 2, Answers: answers("get", "add ErrConflict")})
	wantAll(t, s, "x", "1")

	s = newStore(t, greatest())
	wantRun(t, s, programs(p, p), []int{0, 0, 0, 0, 1, 1, 1, 1},
		api.Outcome{Handle: 1, End: 1, Answers: answers("get", "add", "commit")},
		api.Outcome{Handle: 2, End: 1, Answers: answers("get 1", "add", "commit")})
	wantAll(t, s, "x", "11")
}

// wantUnchanged makes a call that fails, and holds the store against what it was.
func wantUnchanged(t *testing.T, s *seriate.Store, call func()) {
	t.Helper()
	before := s.Told()
	h := begin(t, s)
	wantAbort(t, s, h, api.OK)
	call()
	wantTold(t, s, before)
	wantBegin(t, s, h+1, api.OK)
	wantAbort(t, s, h+1, api.OK)
}

func TestProgramsThatMayNotBe(t *testing.T) {
	fine := script("put x 1", "commit")
	many := func(n int, i api.Ins) []api.Ins { return slices.Repeat([]api.Ins{i}, n) }
	bad := map[string][][]api.Ins{
		"six programs":             {fine, fine, fine, fine, fine, fine},
		"six programs of nothing":  {nil, nil, nil, nil, nil, nil},
		"very many programs":       make([][]api.Ins, 100000),
		"13 instructions":          {many(13, api.Ins{Kind: api.Get, Key: "x"})},
		"13 in the last":           {fine, fine, fine, fine, many(13, api.Ins{Kind: api.Commit})},
		"very many":                {many(100000, api.Ins{Kind: api.Commit})},
		"the last instruction":     {fine, append(script("get x", "commit"), api.Ins{Kind: 9})},
		"N behind a fine one":      {append(script("skip 12"), api.Ins{Kind: api.Skip, N: 13})},
		"both Kind and N are none": {{{Kind: 0, N: -1}}},
	}
	for _, kind := range []int{0, 9, -1, math.MinInt, math.MaxInt} {
		bad[fmt.Sprint("Kind ", kind)] = [][]api.Ins{fine, {{Kind: kind, Key: "x"}}}
	}
	for kind := 1; kind <= 8; kind++ {
		for _, n := range []int{-1, 13, math.MinInt, math.MaxInt} {
			bad[fmt.Sprint("Kind ", kind, ", N ", n)] = [][]api.Ins{{{Kind: kind, Key: "x", N: n}}}
		}
	}
	for name, l := range bad {
		t.Run(name, func(t *testing.T) {
			s := skewed(t)
			wantUnchanged(t, s, func() {
				wantRunErr(t, s, l, nil, api.ErrProgram)
				wantRunErr(t, s, l, []int{0, 0, 0}, api.ErrProgram)
				wantRunErr(t, s, l, []int{-1}, api.ErrProgram)
				wantRunErr(t, s, l, make([]int, 101), api.ErrProgram)
			})
		})
	}
}

func TestSchedulesThatMayNotBe(t *testing.T) {
	fine := script("put x 1", "commit")
	s := skewed(t)
	for n := range 6 {
		l := slices.Repeat([][]api.Ins{fine}, min(n, 5))
		for _, entry := range []int{-1, len(l), len(l) + 1, math.MinInt, math.MaxInt} {
			wantUnchanged(t, s, func() {
				wantRunErr(t, s, l, []int{entry}, api.ErrSchedule)
				wantRunErr(t, s, l, append(make([]int, 99), entry), api.ErrSchedule)
				wantRunErr(t, s, l, append([]int{entry}, make([]int, 99)...), api.ErrSchedule)
			})
		}
		wantUnchanged(t, s, func() {
			wantRunErr(t, s, l, make([]int, 101), api.ErrSchedule)
			wantRunErr(t, s, l, make([]int, 100000), api.ErrSchedule)
		})
	}
}

func TestRunAtItsLimits(t *testing.T) {
	s := newStore(t, greatest())
	p := slices.Repeat(script("get x"), 11)
	for kind := 1; kind <= 8; kind++ {
		p[kind].N = 12
	}
	p = append(p, script("commit")...)
	var schedule []int
	for client := range 5 {
		schedule = append(schedule, turns(client, 20)...)
	}
	l, e := s.Run(programs(p, p, p, p, p), schedule)
	if len(l) != 5 || e != api.OK {
		t.Fatalf("Run = %v, %d", l, e)
	}
	for i, o := range l {
		if o.Handle != i+1 || o.End != api.Committed || len(o.Answers) != 12 {
			t.Fatalf("client %d: %+v", i, o)
		}
	}
}

func TestRunOfNothing(t *testing.T) {
	s := newStore(t, greatest())
	wantRun(t, s, nil, nil)
	wantRun(t, s, [][]api.Ins{}, []int{})
	wantRun(t, s, programs(script("commit"), nil), nil, api.Outcome{}, api.Outcome{})
	wantTold(t, s, api.Counts{})
	// a program without instructions begins, and that is all
	wantRun(t, s, programs(nil, script(), nil), []int{1, 1, 1, 0},
		api.Outcome{Handle: 2, End: 2}, api.Outcome{Handle: 1, End: 2}, api.Outcome{})
	wantTold(t, s, api.Counts{})
	wantBegin(t, s, 3, api.OK)
}

// The first turn is for the Begin, each other one for one instruction.
func TestTurnsOneByOne(t *testing.T) {
	p := script("put x 1", "get x", "del y", "commit", "get z")
	all := answers("put", "get 1", "del", "commit")
	for n := range 8 {
		s := newStore(t, greatest())
		want := api.Outcome{Handle: min(1, n), Answers: all[:min(max(0, n-1), 4)]}
		switch {
		case n >= 5:
			want.End = api.Committed
		case n > 0:
			want.End = api.Aborted
		}
		wantRun(t, s, programs(p), turns(0, n), want)
		if n >= 5 {
			wantTold(t, s, api.Counts{Clock: 1, Kept: 1, Versions: 2})
			wantAll(t, s, "x", "1")
		} else {
			wantTold(t, s, api.Counts{})
		}
	}
}

// Handles and Begins are told by who has the first turn, not by the programs' order.
func TestClientsBeginInTheirTurn(t *testing.T) {
	s := skewed(t)
	read, write := script("get x", "commit"), script("put x 1", "commit")
	wantRun(t, s, programs(read, write, read, read), []int{2, 1, 1, 2, 1, 0, 0, 0, 2},
		api.Outcome{Handle: 4, End: 1, Answers: answers("get 1", "commit")},
		api.Outcome{Handle: 3, End: 1, Answers: answers("put", "commit")},
		api.Outcome{Handle: 2, End: 1, Answers: answers("get 0", "commit")},
		api.Outcome{})
	wantTold(t, s, api.Counts{Clock: 4, Kept: 4, Reads: 2, Versions: 4})
}

// P15: what commits beside a client is not seen by it.
func TestClientReadsOneSnapshot(t *testing.T) {
	s := skewed(t)
	reader := script("get x", "get y", "scan - -", "put q 1", "scan y -", "commit")
	writer := script("put x 1", "del y", "put zz 2", "commit")
	wantRun(t, s, programs(reader, writer), []int{0, 0, 1, 1, 1, 1, 1, 0, 0, 0, 0, 0},
		api.Outcome{Handle: 2, End: 1, Answers: answers("get 0", "get 0", "scan 000", "put", "scan 00", "commit")},
		api.Outcome{Handle: 3, End: 1, Answers: answers("put", "del", "put", "commit")})
	wantAll(t, s, "q", "1", "x", "1", "z", "0", "zz", "2")
}
