package wheel

// list is the timers that are due later than the wheels reach: a heap, so that the first one is at hand however many there are.
type list []*timer

// Len: how many.
func (l list) Len() int { return len(l) }

// Less: does one fire ahead of another one?
func (l list) Less(i, j int) bool { return l[i].fires < l[j].fires }

// Swap: two change places.
func (l list) Swap(i, j int) {
	l[i], l[j] = l[j], l[i]
	l[i].place, l[j].place = i, j
}

// Push: one at the end.
func (l *list) Push(x any) {
	t := x.(*timer)
	t.place = len(*l)
	*l = append(*l, t)
}

// Pop: the one at the end goes.
func (l *list) Pop() any {
	end := len(*l) - 1
	t := (*l)[end]
	// A place that is let go would keep its timer.
	(*l)[end] = nil
	*l = (*l)[:end]
	return t
}
