package seriate_test

import (
	"slices"
	"strings"
	"testing"

	"seriate/api"
	"seriate/seriate"
)

// wantAlone runs one client to its end, and holds its answers and its end.
func wantAlone(t *testing.T, s *seriate.Store, p []api.Ins, end int, want []api.Answer) {
	t.Helper()
	l, e := s.Run(programs(p), turns(0, 13))
	if len(l) != 1 || e != api.OK {
		t.Fatalf("Run(%v) = %+v, %d", p, l, e)
	}
	if l[0].End != end || !slices.Equal(l[0].Answers, want) {
		t.Fatalf("%v ends with %+v, want End %d, %+v", p, l[0], end, want)
	}
}

func TestInstructionsOfEachKind(t *testing.T) {
	for name, c := range map[string]struct {
		program []api.Ins
		answers []api.Answer
		left    []string // keys and values in turn
	}{
		"Get": {script("get x", "get q", "get a", "commit"), answers("get 0", "get", "get -", "commit"), nil},
		"Get of its own": {script("put x 1", "get x", "del x", "get x", "put x -", "get x", "commit"),
			answers("put", "get 1", "del", "get", "put", "get -", "commit"), []string{"a", "", "x", "", "y", "12345678", "z", "34"}},
		"Put of no value, and of a long one": {script("put q -", "put r 12345678", "put s 123456789", "commit"),
			answers("put", "put", "put ErrValue", "commit"), []string{"a", "", "q", "", "r", "12345678", "x", "0", "y", "12345678", "z", "34"}},
		"Del": {script("del y", "del q", "scan - -", "commit"),
			answers("del", "del", "scan 034", "commit"), []string{"a", "", "x", "0", "z", "34"}},
		"Del with a long value": {script("del y 123456789", "del x 1", "commit"),
			answers("del", "del", "commit"), []string{"a", "", "z", "34"}},
		"Scan":                  {script("scan x y", "scan x -", "scan y z", "scan z -", "commit"), answers("scan 0", "scan 01234567", "scan 12345678", "scan 34", "commit"), nil},
		"Scan of nothing":       {script("scan q r", "commit"), answers("scan", "commit"), nil},
		"Scan of an empty text": {script("scan a b", "skip 1", "put q 1", "commit"), answers("scan -", "skip", "commit"), nil},
		"Scan of its own": {script("put b 9", "del x", "put z 5", "scan - y", "scan z -", "commit"),
			answers("put", "del", "put", "scan 9", "scan 5", "commit"), []string{"a", "", "b", "9", "y", "12345678", "z", "5"}},
		"wrong keys": {script("get -", "put -", "add -", "del -", "get abcde", "put abcde 123456789", "add abcde", "del abcde", "scan abcde", "scan - abcde", "commit"),
			answers("get ErrKey", "put ErrKey", "add ErrKey", "del ErrKey", "get ErrKey", "put ErrKey", "add ErrKey", "del ErrKey", "scan ErrKey", "scan ErrKey", "commit"), nil},
		"wrong ranges": {script("scan x x", "scan y x", "scan x xx", "commit"),
			answers("scan ErrRange", "scan ErrRange", "scan 0", "commit"), nil},
		"what it has no use for": {[]api.Ins{{Kind: api.Get, Key: "x", Value: "123456789", N: 12}, {Kind: api.Put, Key: "x", Value: "1", N: 12}, {Kind: api.Skip, Key: "abcde", Value: "123456789"}, {Kind: api.Commit, Key: "abcde", Value: "123456789", N: 12}},
			answers("get 0", "put", "skip", "commit"), []string{"a", "", "x", "1", "y", "12345678", "z", "34"}},
	} {
		t.Run(name, func(t *testing.T) {
			s := newStore(t, greatest())
			before := []string{"a", "", "x", "0", "y", "12345678", "z", "34"}
			committed(t, s, put("a", ""), put("x", "0"), put("y", "12345678"), put("z", "34"))
			wantAlone(t, s, c.program, api.Committed, c.answers)
			if c.left == nil {
				c.left = before
			}
			wantAll(t, s, c.left...)
		})
	}
}

// Add lays its value behind what the last Get or Scan has answered with OK.
func TestAdd(t *testing.T) {
	for name, c := range map[string]struct {
		program []api.Ins
		want    string // of q
	}{
		"behind no read":             {script("add q 1"), "1"},
		"nothing behind nothing":     {script("add q -"), ""},
		"behind a Get":               {script("get x", "add q 1"), "abc1"},
		"behind a Get of none":       {script("get x", "get n", "add q 1"), "1"},
		"behind two Gets":            {script("get z", "get x", "add q 1"), "abc1"},
		"behind a Scan":              {script("scan x z", "add q 1"), "abcdefg1"},
		"behind a Scan of nothing":   {script("get x", "scan n o", "add q 1"), "1"},
		"behind a Scan that is cut":  {script("scan - -", "add q 1"), "abcdefg9"},
		"cut":                        {script("get x", "add q 123456789"), "abc12345"},
		"just not cut":               {script("get x", "add q 12345"), "abc12345"},
		"long behind nothing":        {script("add q 123456789"), "12345678"},
		"twice the same":             {script("get x", "add q 1", "add q 2"), "abc2"},
		"a Put is no read":           {script("get x", "put x 1", "add q 2"), "abc2"},
		"an Add is no read":          {script("get x", "add x 1", "add q 2"), "abc2"},
		"a Del is no read":           {script("get x", "del x", "add q 2"), "abc2"},
		"a Skip is no read":          {script("get x", "skip 0", "add q 2"), "abc2"},
		"its own write":              {script("put x 12", "get x", "add q 3"), "123"},
		"a Get that fails":           {script("get x", "get -", "add q 1"), "abc1"},
		"a Scan that fails":          {script("get x", "scan abcde", "add q 1"), "abc1"},
		"a Scan of no range":         {script("get x", "scan b a", "add q 1"), "abc1"},
		"a Get that is left out":     {script("get x", "skip 1", "get z", "add q 1"), "abc1"},
		"cut within a great value":   {[]api.Ins{{Kind: api.Add, Key: "q", Value: strings.Repeat("12", 1<<20)}}, "12121212"},
		"bytes, not letters":         {[]api.Ins{{Kind: api.Add, Key: "q", Value: "äöüßä"}}, "äöüß"},
		"a letter is cut in its mid": {[]api.Ins{{Kind: api.Add, Key: "q", Value: "1äöüß"}}, "1äöü\xc3"},
	} {
		t.Run(name, func(t *testing.T) {
			s := newStore(t, greatest())
			committed(t, s, put("x", "abc"), put("y", "defg"), put("z", "98"))
			l, e := s.Run(programs(append(c.program, script("commit")...)), turns(0, 13))
			if e != api.OK || l[0].End != api.Committed {
				t.Fatalf("Run = %+v, %d", l, e)
			}
			wantGet(t, s, begin(t, s), "q", c.want)
		})
	}
}

// A Scan's text is cut as well.
func TestScanTellsTheFirstBytes(t *testing.T) {
	s := newStore(t, greatest())
	for _, key := range []string{"a", "b", "c", "d"} {
		committed(t, s, put(key, key+"23"))
	}
	wantAlone(t, s, script("scan a c", "scan a d", "scan - -", "commit"), api.Committed,
		answers("scan a23b23", "scan a23b23c2", "scan a23b23c2", "commit"))
}

func TestSkip(t *testing.T) {
	for name, c := range map[string]struct {
		program []api.Ins
		answers []api.Answer
	}{
		"nothing read":             {script("skip 1", "put q 1", "commit"), answers("skip", "put", "commit")},
		"found":                    {script("get x", "skip 1", "put q 1", "commit"), answers("get 0", "skip", "commit")},
		"an empty text is found":   {script("get a", "skip 1", "put q 1", "commit"), answers("get -", "skip", "commit")},
		"not found":                {script("get n", "skip 1", "put q 1", "commit"), answers("get", "skip", "put", "commit")},
		"no more found":            {script("get x", "get n", "skip 1", "put q 1", "commit"), answers("get 0", "get", "skip", "put", "commit")},
		"found behind":             {script("get n", "get x", "skip 1", "put q 1", "commit"), answers("get", "get 0", "skip", "commit")},
		"found by a Scan":          {script("scan x y", "skip 1", "put q 1", "commit"), answers("scan 0", "skip", "commit")},
		"not found by a Scan":      {script("get x", "scan n o", "skip 1", "put q 1", "commit"), answers("get 0", "scan", "skip", "put", "commit")},
		"none left out":            {script("get x", "skip 0", "put q 1", "commit"), answers("get 0", "skip", "put", "commit")},
		"several":                  {script("get x", "skip 3", "put q 1", "abort", "skip 1", "commit"), answers("get 0", "skip", "commit")},
		"a Skip leaves found":      {script("get x", "skip 1", "abort", "skip 1", "abort", "commit"), answers("get 0", "skip", "skip", "commit")},
		"a Skip is left out":       {script("get x", "skip 1", "skip 1", "commit"), answers("get 0", "skip", "commit")},
		"an error leaves found":    {script("get x", "get -", "scan b a", "put - 1", "skip 1", "abort", "commit"), answers("get 0", "get ErrKey", "scan ErrRange", "put ErrKey", "skip", "commit")},
		"an error finds nothing":   {script("get abcde", "skip 1", "commit"), answers("get ErrKey", "skip", "commit")},
		"a Put leaves found":       {script("get x", "put q 1", "del x", "skip 1", "abort", "commit"), answers("get 0", "put", "del", "skip", "commit")},
		"a Put finds nothing":      {script("put q 1", "skip 1", "commit"), answers("put", "skip", "commit")},
		"what it has itself":       {script("put n 1", "get n", "skip 1", "abort", "commit"), answers("put", "get 1", "skip", "commit")},
		"what it has itself taken": {script("del x", "get x", "skip 1", "commit"), answers("del", "get", "skip", "commit")},
	} {
		t.Run(name, func(t *testing.T) {
			s := newStore(t, greatest())
			committed(t, s, put("a", ""), put("x", "0"))
			wantAlone(t, s, c.program, api.Committed, c.answers)
		})
	}
}

func TestSkipToTheEnd(t *testing.T) {
	for _, n := range []string{"skip 1", "skip 2", "skip 12"} {
		s := skewed(t)
		wantAlone(t, s, script("put x 1", "get x", n, "commit"), api.Aborted, answers("put", "get 1", "skip"))
		wantTold(t, s, api.Counts{Clock: 1, Kept: 1, Versions: 3})
	}
}

// A Skip takes one turn, however much it leaves out.
func TestSkipIsOneTurn(t *testing.T) {
	s := skewed(t)
	p := script("get x", "skip 3", "abort", "abort", "abort", "put x 1", "commit")
	wantRun(t, s, programs(p), turns(0, 4), api.Outcome{Handle: 2, End: 2, Answers: answers("get 0", "skip", "put")})
	wantRun(t, s, programs(p), turns(0, 5), api.Outcome{Handle: 3, End: 1, Answers: answers("get 0", "skip", "put", "commit")})
}

// A client that is over does nothing, though turns and instructions are left.
func TestClientIsOver(t *testing.T) {
	rest := []string{"put q 1", "get q", "commit", "abort"}
	for name, c := range map[string]struct {
		first   []string
		end     int
		answers []api.Answer
		clock   int
	}{
		"behind a Commit":   {[]string{"put x 1", "commit"}, api.Committed, answers("put", "commit"), 2},
		"behind an Abort":   {[]string{"put x 1", "abort"}, api.Aborted, answers("put", "abort"), 1},
		"behind a conflict": {[]string{"get x", "put held 1"}, api.Aborted, answers("get 0", "put ErrConflict"), 1},
		"of an Add":         {[]string{"get x", "add held 1"}, api.Aborted, answers("get 0", "add ErrConflict"), 1},
		"of a Del":          {[]string{"del held"}, api.Aborted, answers("del ErrConflict"), 1},
	} {
		t.Run(name, func(t *testing.T) {
			s := skewed(t)
			wantWrite(t, s, begin(t, s), api.OK, put("held", "1"))
			wantAlone(t, s, script(append(c.first, rest...)...), c.end, c.answers)
			if told := s.Told(); told.Clock != c.clock || told.Active != 1 {
				t.Fatalf("Told = %+v", told)
			}
			wantBegin(t, s, 4, api.OK)
		})
	}
}

func TestClientIsOverWhenItIsUnsafe(t *testing.T) {
	rest := []string{"put q 1", "get q", "commit", "abort"}
	skew := func(lines ...string) []api.Ins { return script(append(lines, rest...)...) }
	// example 3: at the Commit
	s := skewed(t)
	wantRun(t, s, programs(skew("get x", "get y", "put x 1", "commit"), skew("get x", "get y", "put y 1", "commit")),
		slices.Concat(turns(0, 3), turns(1, 3), []int{0, 1}, turns(0, 9), turns(1, 9)),
		api.Outcome{Handle: 2, End: 2, Answers: answers("get 0", "get 0", "put", "commit ErrUnsafe")},
		api.Outcome{Handle: 3, End: 2, Answers: answers("get 0", "get 0", "put", "commit ErrUnsafe")})
	wantAll(t, s, "x", "0", "y", "0", "z", "0")
	// example 4: at a write
	for _, line := range []string{"put y 1", "add y 1", "del y"} {
		s = skewed(t)
		kind, _, _ := strings.Cut(line, " ")
		wantRun(t, s, programs(skew("get x", "get y", "put x 1", "commit"), skew("get x", "get y", line)),
			slices.Concat(turns(0, 3), turns(1, 3), turns(0, 9), turns(1, 9)),
			api.Outcome{Handle: 2, End: 1, Answers: answers("get 0", "get 0", "put", "commit")},
			api.Outcome{Handle: 3, End: 2, Answers: answers("get 0", "get 0", kind+" ErrUnsafe")})
		wantAll(t, s, "x", "1", "y", "0", "z", "0")
	}
	// example 6: at a read
	for _, line := range []string{"get z", "scan - -"} {
		s = skewed(t)
		kind, _, _ := strings.Cut(line, " ")
		wantRun(t, s, programs(skew("put y 1", "commit"), skew("get y", "put z 1", "commit"), skew(line)),
			slices.Concat(turns(0, 1), turns(1, 2), turns(0, 9), turns(2, 1), turns(1, 9), turns(2, 9)),
			api.Outcome{Handle: 2, End: 1, Answers: answers("put", "commit")},
			api.Outcome{Handle: 3, End: 1, Answers: answers("get 0", "put", "commit")},
			api.Outcome{Handle: 4, End: 2, Answers: answers(kind + " ErrUnsafe")})
	}
}

// Errors that abort nothing are answered, and the client goes on.
func TestClientGoesOnWhereThereIsNoRoom(t *testing.T) {
	s := newStore(t, api.Config{Txns: 3, Reads: 1, Writes: 2, Versions: 2})
	committed(t, s, put("x", "0"))
	wantAlone(t, s, script("get x", "get y", "scan - -", "skip 1", "abort", "put a 1", "put b 1", "put c 1", "commit", "add a 1", "commit"), api.Aborted,
		answers("get 0", "get ErrFull", "scan ErrFull", "skip", "put", "put", "put ErrFull", "commit ErrFull", "add", "commit ErrFull"))
	wantTold(t, s, api.Counts{Clock: 1, Kept: 1, Versions: 1})
	wantAlone(t, s, script("put a 1", "put b 1", "commit", "abort", "get x"), api.Aborted, answers("put", "put", "commit ErrFull", "abort"))
	wantAll(t, s, "x", "0")
}

// A client that could not begin is over, though there be room for it later.
func TestClientWithoutRoomToBegin(t *testing.T) {
	s := newStore(t, api.Config{Txns: 1, Reads: 1, Writes: 1, Versions: 1})
	wantRun(t, s, programs(script("abort"), script("put x 1", "commit"), script("put x 2", "commit")), []int{0, 1, 0, 1, 1, 1, 2, 2, 2},
		api.Outcome{Handle: 1, End: 2, Answers: answers("abort")},
		api.Outcome{},
		api.Outcome{Handle: 2, End: 1, Answers: answers("put", "commit")})
	// the record of the last one is kept
	wantRun(t, s, programs(script("put x 3")), turns(0, 3), api.Outcome{})
	s.Cleanup()
	wantRun(t, s, programs(script("get x", "commit")), turns(0, 3), api.Outcome{Handle: 3, End: 1, Answers: answers("get 2", "commit")})
}

// Behind its last instruction a client still has its transaction, till the end of the Run.
func TestClientIsActiveTillTheEnd(t *testing.T) {
	s := newStore(t, api.Config{Txns: 2, Reads: 1, Writes: 1, Versions: 1})
	wantRun(t, s, programs(script("put x 1"), script("get y", "put x 2", "commit"), script("commit")), []int{0, 0, 0, 1, 2, 2, 1, 1},
		api.Outcome{Handle: 1, End: 2, Answers: answers("put")},
		api.Outcome{Handle: 2, End: 2, Answers: answers("get", "put ErrConflict")},
		api.Outcome{})
	wantTold(t, s, api.Counts{})
	wantRun(t, s, programs(script("get x")), turns(0, 9), api.Outcome{Handle: 3, End: 2, Answers: answers("get")})
	wantTold(t, s, api.Counts{})
}

// Run aborts its own transactions, and no others; the marks they left stay.
func TestRunBesideOthers(t *testing.T) {
	s := skewed(t)
	h, other := begin(t, s), begin(t, s)
	wantWrite(t, s, h, api.OK, put("x", "1"))
	wantGet(t, s, h, "y", "0")
	wantRun(t, s, programs(script("get x", "put y 1"), script("put x 2"), nil), []int{0, 1, 2, 0, 1, 0},
		api.Outcome{Handle: 4, End: 2, Answers: answers("get 0", "put")},
		api.Outcome{Handle: 5, End: 2, Answers: answers("put ErrConflict")},
		api.Outcome{Handle: 6, End: 2})
	wantLook(t, s, h, api.Txn{Begin: 1, In: true, Out: true, Reads: 1, Writes: 1})
	wantLook(t, s, other, api.Txn{Begin: 1})
	wantTold(t, s, api.Counts{Clock: 1, Active: 2, Kept: 1, Reads: 1, Versions: 3})
	wantCommit(t, s, h, api.ErrUnsafe)
	wantCommit(t, s, other, api.OK)
}

// What a client leaves behind is no part of the next Run.
func TestRunsAreApart(t *testing.T) {
	s := skewed(t)
	wantAlone(t, s, script("get x", "add q 1", "commit"), api.Committed, answers("get 0", "add", "commit"))
	wantAlone(t, s, script("skip 1", "add q 2", "commit"), api.Committed, answers("skip", "add", "commit"))
	wantAll(t, s, "q", "2", "x", "0", "y", "0", "z", "0")
	wantRun(t, s, programs(script("get x"), script("skip 1", "add q 3", "commit")), []int{0, 0, 1, 1, 1, 1},
		api.Outcome{Handle: 5, End: 2, Answers: answers("get 0")},
		api.Outcome{Handle: 6, End: 1, Answers: answers("skip", "add", "commit")})
	wantAll(t, s, "q", "3", "x", "0", "y", "0", "z", "0")
}
