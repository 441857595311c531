package seriate_test

import (
	"math"
	"testing"

	"seriate/api"
	"seriate/seriate"
)

// Each field of a configuration by itself, at its ends and one beyond each.
func TestNewHoldsEachFieldAgainstItsLimits(t *testing.T) {
	fields := []struct {
		name string
		most int
		set  func(c *api.Config, n int)
	}{
		{"Txns", 32, func(c *api.Config, n int) { c.Txns = n }},
		{"Reads", 64, func(c *api.Config, n int) { c.Reads = n }},
		{"Writes", 16, func(c *api.Config, n int) { c.Writes = n }},
		{"Versions", 128, func(c *api.Config, n int) { c.Versions = n }},
	}
	for _, f := range fields {
		for _, base := range []api.Config{least(), greatest()} {
			for _, n := range []int{1, f.most} {
				f.set(&base, n)
				newStore(t, base)
			}
			for _, n := range []int{0, f.most + 1, -1, -f.most, math.MinInt, math.MaxInt} {
				f.set(&base, n)
				if s, e := seriate.New(base); s != nil || e != api.ErrConfig {
					t.Errorf("New with %s %d = %v, %d", f.name, n, s, e)
				}
			}
		}
	}
	if s, e := seriate.New(api.Config{}); s != nil || e != api.ErrConfig {
		t.Errorf("New of nothing = %v, %d", s, e)
	}
}

func TestNewStoreIsEmpty(t *testing.T) {
	s := newStore(t, greatest())
	h := begin(t, s)
	wantScan(t, s, h, "", "")
	wantNone(t, s, h, "a")
}

func TestStoresAreApart(t *testing.T) {
	a, b := newStore(t, greatest()), newStore(t, greatest())
	committed(t, a, put("x", "1"))
	wantEnded(t, b, 1)
	wantBegin(t, b, 1, api.OK)
	wantScan(t, b, 1, "", "")
}

func TestBeginCountsTheOnesAnsweredOK(t *testing.T) {
	s := newStore(t, api.Config{Txns: 2, Reads: 1, Writes: 1, Versions: 1})
	wantBegin(t, s, 1, api.OK)
	wantBegin(t, s, 2, api.OK)
	wantBegin(t, s, 0, api.ErrFull)
	wantBegin(t, s, 0, api.ErrFull)
	wantAbort(t, s, 1, api.OK)
	wantBegin(t, s, 3, api.OK)
	wantBegin(t, s, 0, api.ErrFull)
	wantAbort(t, s, 3, api.OK)
	wantBegin(t, s, 4, api.OK)
}

func TestBeginIsFullAtTxnsRecords(t *testing.T) {
	for _, c := range []api.Config{least(), greatest()} {
		s := newStore(t, c)
		for h := range c.Txns {
			wantBegin(t, s, h+1, api.OK)
		}
		wantBegin(t, s, 0, api.ErrFull)
	}
}

func TestBeginCountsKeptRecords(t *testing.T) {
	s := newStore(t, api.Config{Txns: 2, Reads: 1, Writes: 1, Versions: 1})
	wantCommit(t, s, begin(t, s), api.OK)
	h := begin(t, s)
	wantBegin(t, s, 0, api.ErrFull)
	wantCommit(t, s, h, api.OK)
	wantBegin(t, s, 0, api.ErrFull)
}

func TestHandlesThatAreNone(t *testing.T) {
	s := newStore(t, greatest())
	for _, h := range []int{0, 1, -1, math.MinInt, math.MaxInt} {
		wantEnded(t, s, h)
	}
	h := begin(t, s)
	for _, other := range []int{0, h + 1, -h, math.MinInt, math.MaxInt} {
		wantEnded(t, s, other)
	}
	wantNone(t, s, h, "a")
}

func TestHandlesOfTheEnded(t *testing.T) {
	s := newStore(t, greatest())
	a, b, c := begin(t, s), begin(t, s), begin(t, s)
	wantWrite(t, s, a, api.OK, put("x", "1"))
	wantWrite(t, s, c, api.ErrConflict, put("x", "2"))
	wantEnded(t, s, c)
	wantCommit(t, s, a, api.OK)
	wantEnded(t, s, a)
	wantAbort(t, s, b, api.OK)
	wantEnded(t, s, b)
	h := begin(t, s)
	wantScan(t, s, h, "", "", "x", "1")
}
