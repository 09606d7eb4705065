package dig

import (
	"cmp"
	"slices"

	"skep/api"
	"skep/grid"
)

// yard is a grid and what stands on it: each cell's bins, by its number. The bins are the caller's lists, and only read.
type yard struct {
	g      *grid.Grid
	height int
	piles  [][]int
}

// newYard lays stacks on a config's grid.
func newYard(c api.Conf, stacks []api.Stack) (*yard, api.Errno) {
	g, e := grid.New(c)
	if e != api.OK {
		return nil, e
	}
	y := &yard{g: g, height: c.Height, piles: make([][]int, c.W*c.H)}
	// The last one first: of two for one cell the first one stays.
	for _, s := range slices.Backward(stacks) {
		if i := g.Number(s.At); i >= 0 {
			y.piles[i] = s.Bins
		}
	}
	return y, api.OK
}

// pile is the bins of a cell of the grid, from the lowest on.
func (y *yard) pile(c api.Cell) []int {
	return y.piles[y.g.Number(c)]
}

// find is the stack cell at which a bin stands, and the bins above it.
func (y *yard) find(bin int) (api.Cell, []int, bool) {
	for c := range y.g.Stacks() {
		if i := slices.Index(y.pile(c), bin); i >= 0 {
			return c, y.pile(c)[i+1:], true
		}
	}
	return api.Cell{}, nil, false
}

// places is where bins from a cell may be put, one after the other: each of the free cells as often as it has room, the least far first.
func (y *yard) places(touched []api.Cell, from api.Cell) []api.Cell {
	free := y.free(touched, from)
	// Stable: of those alike the first in order stays ahead.
	slices.SortStableFunc(free, func(a, b api.Cell) int {
		return cmp.Compare(grid.Away(from, a), grid.Away(from, b))
	})
	var out []api.Cell
	for _, c := range free {
		// Not even once where there is none: a stack that is handed in may have more than Height bins.
		for range y.height - len(y.pile(c)) {
			out = append(out, c)
		}
	}
	return out
}

// free is the stack cells beside a cell that nobody works at, in order.
func (y *yard) free(touched []api.Cell, from api.Cell) []api.Cell {
	var out []api.Cell
cells:
	for c := range y.g.Stacks() {
		if c == from {
			continue
		}
		for _, t := range touched {
			if t == c {
				continue cells
			}
		}
		out = append(out, c)
	}
	return out
}
