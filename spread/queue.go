package spread

import (
	"container/heap"

	"puncheon/frac"
)

// queue is keys that are next. Its exported methods are what container/heap asks for, and are called by it alone.
type queue struct{ waiting []frac.Key }

// add lets a key wait.
func (w *queue) add(k frac.Key) { heap.Push(w, k) }

// least takes off the least key. There must be one.
func (w *queue) least() frac.Key { return heap.Pop(w).(frac.Key) }

// Len is how many wait.
func (w *queue) Len() int { return len(w.waiting) }

// Less tells which of two is less.
func (w *queue) Less(i, j int) bool { return frac.Cmp(w.waiting[i], w.waiting[j]) < 0 }

// Swap lets two change their places.
func (w *queue) Swap(i, j int) { w.waiting[i], w.waiting[j] = w.waiting[j], w.waiting[i] }

// Push lays a key behind all.
func (w *queue) Push(k any) { w.waiting = append(w.waiting, k.(frac.Key)) }

// Pop takes off the key behind all.
func (w *queue) Pop() any {
	last := len(w.waiting) - 1
	k := w.waiting[last]
	w.waiting = w.waiting[:last]
	return k
}
