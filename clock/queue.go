package clock

// moment is when a number is to happen.
type moment struct {
	id int
	at int64
	// Where it stands in the queue, so that it is taken out of its midst without
	// being looked for.
	place int
}

// queue is a heap of moments, as container/heap asks for it.
type queue []*moment

func (q queue) Len() int { return len(q) }

func (q queue) Less(i, j int) bool {
	if q[i].at != q[j].at {
		return q[i].at < q[j].at
	}
	return q[i].id < q[j].id
}

func (q queue) Swap(i, j int) {
	q[i], q[j] = q[j], q[i]
	q[i].place, q[j].place = i, j
}

func (q *queue) Push(x any) {
	m := x.(*moment)
	m.place = len(*q)
	*q = append(*q, m)
}

func (q *queue) Pop() any {
	last := len(*q) - 1
	m := (*q)[last]
	// Else the spare room would keep it.
	(*q)[last] = nil
	*q = (*q)[:last]
	return m
}
