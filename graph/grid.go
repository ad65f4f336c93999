package graph

import (
	"math/bits"

	"tabard/api"
	"tabard/eval"
)

// grid is a set of cells: a word for each row, a bit for each column.
type grid [api.MaxRows]uint64

func (g *grid) add(cell int) {
	g[cell/api.MaxColumns] |= 1 << (cell % api.MaxColumns)
}

func (g *grid) remove(cell int) {
	g[cell/api.MaxColumns] &^= 1 << (cell % api.MaxColumns)
}

func (g *grid) has(cell int) bool {
	return g[cell/api.MaxColumns]>>(cell%api.MaxColumns)&1 == 1
}

// cells are those of the set, in ascending order.
func (g *grid) cells() []int {
	l := []int{}
	for row := range g {
		for left := g[row]; left != 0; left &= left - 1 {
			l = append(l, row*api.MaxColumns+bits.TrailingZeros64(left))
		}
	}
	return l
}

// columns are the bits of an area's columns.
func columns(a eval.Area) uint64 {
	// Go shifts everything out when the count is 64.
	return 1<<(a.B.Col+1) - 1<<a.A.Col
}

// meets tells whether a cell of the set is in one of some areas.
func (g *grid) meets(l []eval.Area) bool {
	for _, a := range l {
		for row := a.A.Row; row <= a.B.Row; row++ {
			if g[row]&columns(a) != 0 {
				return true
			}
		}
	}
	return false
}

const fewCells = 8

// touches does so, too; cells are those of the set. If they are few, there is no need to go through the rows of great areas.
func (g *grid) touches(cells []int, l []eval.Area) bool {
	if len(cells) > fewCells {
		return g.meets(l)
	}
	for _, c := range cells {
		if inside(c, l) {
			return true
		}
	}
	return false
}
