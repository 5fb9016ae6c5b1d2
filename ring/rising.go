package ring

import (
	"container/heap"
	"sort"
)

// rising is a heap of numbers: the least one comes out first.
type rising struct{ sort.IntSlice }

func (r *rising) add(n int) {
	heap.Push(r, n)
}

func (r *rising) least() int {
	return heap.Pop(r).(int)
}

// Push is heap.Interface's.
func (r *rising) Push(x any) {
	r.IntSlice = append(r.IntSlice, x.(int))
}

// Pop is heap.Interface's.
func (r *rising) Pop() any {
	last := len(r.IntSlice) - 1
	n := r.IntSlice[last]
	r.IntSlice = r.IntSlice[:last]
	return n
}
