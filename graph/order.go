package graph

import (
	"math/bits"

	"tabard/api"
	"tabard/eval"
)

// seeker looks for the remaining cells that a cell needs, one after the other; what is behind it never comes back.
type seeker struct {
	cell      int
	areas     []eval.Area
	area, row int
	next      int // the seeker that waits for the same cell, or -1
}

// blocker is the next remaining cell that is needed, or -1.
func (s *seeker) blocker(remaining *grid) int {
	for s.area < len(s.areas) {
		a := s.areas[s.area]
		for row := a.A.Row + s.row; row <= a.B.Row; row++ {
			if left := remaining[row] & columns(a); left != 0 {
				return row*api.MaxColumns + bits.TrailingZeros64(left)
			}
			s.row++
		}
		s.area++
		s.row = 0
	}
	return -1
}

// ordering is the work of Order.
type ordering struct {
	remaining, ready grid
	least            int // no ready cell is in a row ahead of this one
	seekers          []seeker
	waiting          map[int]int // by cell, the first of the seekers that wait for it
}

// Order tells in which order cells may be worked out, and which may not be.
func (g *Graph) Order(l []int) ([]int, []int) {
	o := &ordering{waiting: map[int]int{}}
	for _, c := range l {
		if isCell(c) {
			o.remaining.add(c)
		}
	}
	for _, c := range o.remaining.cells() {
		o.seekers = append(o.seekers, seeker{cell: c, areas: g.needs[c]})
	}
	for i := range o.seekers {
		o.settle(i)
	}
	order := []int{}
	for c := o.take(); c >= 0; c = o.take() {
		order = append(order, c)
		first, ok := o.waiting[c]
		if !ok {
			continue
		}
		delete(o.waiting, c)
		for i := first; i >= 0; {
			next := o.seekers[i].next
			o.settle(i)
			i = next
		}
	}
	return order, o.remaining.cells()
}

// settle lets a seeker wait for a cell that it needs, or makes its own cell ready.
func (o *ordering) settle(i int) {
	s := &o.seekers[i]
	b := s.blocker(&o.remaining)
	if b < 0 {
		o.ready.add(s.cell)
		o.least = min(o.least, s.cell/api.MaxColumns)
		return
	}
	s.next = -1
	if other, ok := o.waiting[b]; ok {
		s.next = other
	}
	o.waiting[b] = i
}

// take removes the least ready cell, or answers -1.
func (o *ordering) take() int {
	for o.least < api.MaxRows && o.ready[o.least] == 0 {
		o.least++
	}
	if o.least == api.MaxRows {
		return -1
	}
	c := o.least*api.MaxColumns + bits.TrailingZeros64(o.ready[o.least])
	o.ready.remove(c)
	o.remaining.remove(c)
	return c
}
