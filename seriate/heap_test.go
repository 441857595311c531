package seriate

import (
	"math/rand"
	"slices"
	"testing"
)

// wantHeap looks whether all lie right, and know their places.
func wantHeap(t *testing.T, q *heap, live []*txn) {
	t.Helper()
	if len(q.list) != len(live) {
		t.Fatalf("%d in the heap, want %d", len(q.list), len(live))
	}
	for i, x := range q.list {
		if x.place != i || !slices.Contains(live, x) {
			t.Fatalf("at the place %d lies %+v", i, x)
		}
		if above := q.list[max(0, (i-1)/2)]; above.begin > x.begin {
			t.Fatalf("Begin %d lies under %d", x.begin, above.begin)
		}
	}
	top, found := q.top()
	if found != (len(live) > 0) {
		t.Fatalf("top = %v with %d in the heap", found, len(live))
	}
	for _, x := range live {
		if top.begin > x.begin {
			t.Fatalf("on top lies %d, want %d", top.begin, x.begin)
		}
	}
}

func TestHeapOfBegins(t *testing.T) {
	for seed := range int64(300) {
		r := rand.New(rand.NewSource(seed))
		var q heap
		var live []*txn
		for n := range 100 {
			if len(live) == 0 || len(live) < 32 && r.Intn(2+n/40) == 0 {
				x := newTxn(n+1, r.Intn(20))
				q.add(x)
				live = append(live, x)
			} else {
				i := r.Intn(len(live))
				q.remove(live[i])
				live = slices.Delete(live, i, i+1)
			}
			wantHeap(t, &q, live)
		}
	}
}

// One that is taken out of the middle is followed by the last one, which may
// have to rise past those above it.
func TestHeapLetsTheLastOneRise(t *testing.T) {
	var q heap
	var live []*txn
	for i, n := range []int{1, 10, 2, 11, 12, 3, 4} {
		x := newTxn(i+1, n)
		q.add(x)
		live = append(live, x)
	}
	q.remove(live[3]) // 4 takes the place of 11, under 10
	wantHeap(t, &q, slices.Delete(live, 3, 4))
}
