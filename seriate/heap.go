package seriate

// heap of the active transactions by their Begins: none lies under one that
// has begun later. Each knows its place, so that it can be taken out of the
// middle when it ends.
type heap struct {
	list []*txn
}

// top tells the one with the least Begin, if there is one.
func (q *heap) top() (*txn, bool) {
	if len(q.list) == 0 {
		return nil, false
	}
	return q.list[0], true
}

func (q *heap) add(t *txn) {
	t.place = len(q.list)
	q.list = append(q.list, t)
	q.rise(t.place)
}

func (q *heap) remove(t *txn) {
	i, last := t.place, len(q.list)-1
	q.swap(i, last)
	q.list[last] = nil // the room behind the list is not to hold it
	q.list = q.list[:last]
	if i < last {
		// What came from the end may be of another branch: it goes either way.
		q.rise(i)
		q.sink(i)
	}
}

func (q *heap) rise(i int) {
	for i > 0 {
		above := (i - 1) / 2
		if !q.isLess(i, above) {
			return
		}
		q.swap(i, above)
		i = above
	}
}

func (q *heap) sink(i int) {
	for {
		below := q.lesserBelow(i)
		if below >= len(q.list) || !q.isLess(below, i) {
			return
		}
		q.swap(i, below)
		i = below
	}
}

// lesserBelow tells the place of the lesser one of the two under i; it is
// behind the list if there is none.
func (q *heap) lesserBelow(i int) int {
	left, right := 2*i+1, 2*i+2
	if right < len(q.list) && q.isLess(right, left) {
		return right
	}
	return left
}

func (q *heap) isLess(i int, j int) bool { return q.list[i].begin < q.list[j].begin }

func (q *heap) swap(i int, j int) {
	q.list[i], q.list[j] = q.list[j], q.list[i]
	q.list[i].place = i
	q.list[j].place = j
}
