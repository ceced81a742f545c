package norm

import "container/heap"

// queue is shares that wait. Its exported methods are what container/heap asks for, and are called by it alone.
type queue struct {
	waiting []share
	ahead   func(a, b share) bool
}

// add lets a share wait.
func (w *queue) add(s share) { heap.Push(w, s) }

// next takes off the share that is ahead of all others. There must be one.
func (w *queue) next() share { return heap.Pop(w).(share) }

// Len is how many wait.
func (w *queue) Len() int { return len(w.waiting) }

// Less tells who of two is ahead.
func (w *queue) Less(i, j int) bool { return w.ahead(w.waiting[i], w.waiting[j]) }

// Swap lets two change their places.
func (w *queue) Swap(i, j int) { w.waiting[i], w.waiting[j] = w.waiting[j], w.waiting[i] }

// Push lays a share behind all.
func (w *queue) Push(s any) { w.waiting = append(w.waiting, s.(share)) }

// Pop takes off the share behind all.
func (w *queue) Pop() any {
	last := len(w.waiting) - 1
	s := w.waiting[last]
	w.waiting = w.waiting[:last]
	return s
}
