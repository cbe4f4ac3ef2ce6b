package agenda

// thing is one entry of an agenda. No two have the same turn, so that the order of what is due at one time is settled.
type thing struct {
	what, due int
	turn      int // which of the agenda's Sets set it last
	place     int // where it stands in the queue, for heap.Fix and heap.Remove
}

// queue is the list that container/heap keeps, the thing that comes first in front.
type queue []*thing

func (q queue) Len() int { return len(q) }

func (q queue) Less(i, j int) bool {
	if q[i].due != q[j].due {
		return q[i].due < q[j].due
	}
	return q[i].turn < q[j].turn
}

func (q queue) Swap(i, j int) {
	q[i], q[j] = q[j], q[i]
	q[i].place, q[j].place = i, j
}

// Push is called by container/heap alone.
func (q *queue) Push(x any) {
	t := x.(*thing)
	t.place = len(*q)
	*q = append(*q, t)
}

// Pop is called by container/heap alone.
func (q *queue) Pop() any {
	last := len(*q) - 1
	t := (*q)[last]
	// The list's spare room would hold the thing in memory.
	(*q)[last] = nil
	*q = (*q)[:last]
	return t
}
