package seriate_test

import (
	"fmt"
	"slices"
	"testing"

	"seriate/api"
	"seriate/seriate"
)

func greatest() api.Config {
	return api.Config{Txns: 32, Reads: 64, Writes: 16, Versions: 128}
}

func least() api.Config {
	return api.Config{Txns: 1, Reads: 1, Writes: 1, Versions: 1}
}

func newStore(t *testing.T, c api.Config) *seriate.Store {
	t.Helper()
	s, e := seriate.New(c)
	if s == nil || e != api.OK {
		t.Fatalf("New(%+v) = %v, %d", c, s, e)
	}
	return s
}

func begin(t *testing.T, s *seriate.Store) int {
	t.Helper()
	h, e := s.Begin()
	if h < 1 || e != api.OK {
		t.Fatalf("Begin = %d, %d", h, e)
	}
	return h
}

func wantBegin(t *testing.T, s *seriate.Store, want int, wantErr api.Errno) {
	t.Helper()
	if h, e := s.Begin(); h != want || e != wantErr {
		t.Fatalf("Begin = %d, %d, want %d, %d", h, e, want, wantErr)
	}
}

func wantGet(t *testing.T, s *seriate.Store, h int, key string, want string) {
	t.Helper()
	if v, there, e := s.Get(h, key); v != want || !there || e != api.OK {
		t.Fatalf("Get(%d, %q) = %q, %v, %d, want %q", h, key, v, there, e, want)
	}
}

func wantNone(t *testing.T, s *seriate.Store, h int, key string) {
	t.Helper()
	if v, there, e := s.Get(h, key); v != "" || there || e != api.OK {
		t.Fatalf("Get(%d, %q) = %q, %v, %d, want none", h, key, v, there, e)
	}
}

func wantGetErr(t *testing.T, s *seriate.Store, h int, key string, want api.Errno) {
	t.Helper()
	if v, there, e := s.Get(h, key); v != "" || there || e != want {
		t.Fatalf("Get(%d, %q) = %q, %v, %d, want error %d alone", h, key, v, there, e, want)
	}
}

// wantScan takes keys and values in turn.
func wantScan(t *testing.T, s *seriate.Store, h int, lo string, hi string, keysAndValues ...string) {
	t.Helper()
	var want []api.Pair
	for i := 0; i < len(keysAndValues); i += 2 {
		want = append(want, api.Pair{Key: keysAndValues[i], Value: keysAndValues[i+1]})
	}
	if l, e := s.Scan(h, lo, hi); !slices.Equal(l, want) || e != api.OK {
		t.Fatalf("Scan(%d, %q, %q) = %q, %d, want %q", h, lo, hi, l, e, want)
	}
}

func wantScanErr(t *testing.T, s *seriate.Store, h int, lo string, hi string, want api.Errno) {
	t.Helper()
	if l, e := s.Scan(h, lo, hi); len(l) != 0 || e != want {
		t.Fatalf("Scan(%d, %q, %q) = %q, %d, want error %d alone", h, lo, hi, l, e, want)
	}
}

func wantWrite(t *testing.T, s *seriate.Store, h int, want api.Errno, changes ...api.Change) {
	t.Helper()
	if e := s.Write(h, changes...); e != want {
		t.Fatalf("Write(%d, %#v) = %d, want %d", h, changes, e, want)
	}
}

func wantCommit(t *testing.T, s *seriate.Store, h int, want api.Errno) {
	t.Helper()
	if e := s.Commit(h); e != want {
		t.Fatalf("Commit(%d) = %d, want %d", h, e, want)
	}
}

func wantAbort(t *testing.T, s *seriate.Store, h int, want api.Errno) {
	t.Helper()
	if e := s.Abort(h); e != want {
		t.Fatalf("Abort(%d) = %d, want %d", h, e, want)
	}
}

// wantEnded holds every call with that handle against ErrHandle, with
// arguments that other errors apply to as well.
func wantEnded(t *testing.T, s *seriate.Store, h int) {
	t.Helper()
	for _, key := range []string{"a", "", "abcde"} {
		wantGetErr(t, s, h, key, api.ErrHandle)
		wantScanErr(t, s, h, key, "a", api.ErrHandle)
		wantWrite(t, s, h, api.ErrHandle, put(key, "123456789"))
	}
	wantScanErr(t, s, h, "", "", api.ErrHandle)
	wantWrite(t, s, h, api.ErrHandle)
	wantWrite(t, s, h, api.ErrHandle, put("a", "1"))
	wantCommit(t, s, h, api.ErrHandle)
	wantAbort(t, s, h, api.ErrHandle)
	if x, e := s.Look(h); x != (api.Txn{}) || e != api.ErrHandle {
		t.Fatalf("Look(%d) = %+v, %d, want ErrHandle alone", h, x, e)
	}
}

func wantLook(t *testing.T, s *seriate.Store, h int, want api.Txn) {
	t.Helper()
	if x, e := s.Look(h); x != want || e != api.OK {
		t.Fatalf("Look(%d) = %+v, %d, want %+v", h, x, e, want)
	}
}

func wantMarks(t *testing.T, s *seriate.Store, h int, in bool, out bool) {
	t.Helper()
	if x, e := s.Look(h); x.In != in || x.Out != out || e != api.OK {
		t.Fatalf("Look(%d) = %+v, %d, want In %v, Out %v", h, x, e, in, out)
	}
}

func wantTold(t *testing.T, s *seriate.Store, want api.Counts) {
	t.Helper()
	if c := s.Told(); c != want {
		t.Fatalf("Told = %+v, want %+v", c, want)
	}
}

func put(key string, value string) api.Change {
	return api.Change{Key: key, Value: value}
}

func gone(key string) api.Change {
	return api.Change{Key: key, Gone: true}
}

// puts makes n changes of n keys.
func puts(n int) []api.Change {
	var l []api.Change
	for i := range n {
		l = append(l, put(fmt.Sprintf("k%02d", i), fmt.Sprint(i)))
	}
	return l
}

// committed commits the changes in a transaction of their own.
func committed(t *testing.T, s *seriate.Store, changes ...api.Change) {
	t.Helper()
	h := begin(t, s)
	wantWrite(t, s, h, api.OK, changes...)
	wantCommit(t, s, h, api.OK)
}
