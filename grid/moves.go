package grid

import (
	"iter"
	"slices"

	"skep/api"
)

// Shift is the pose n cells further.
func (g *Grid) Shift(p api.Pose, dir, n int) (api.Pose, bool) {
	if n < 0 || n > api.MaxSide {
		return api.Pose{}, false
	}
	switch dir {
	case api.North:
		p.At.Y -= n
	case api.East:
		p.At.X += n
	case api.South:
		p.At.Y += n
	case api.West:
		p.At.X -= n
	default:
		return api.Pose{}, false
	}
	return p, true
}

// Legal tells whether a move may be.
func (g *Grid) Legal(m api.Move) bool {
	to, ok := g.leads(m)
	// From is asked ahead of the cells: only of a pose in the grid are they few, and in their order.
	if !ok || m.To != to || !g.Fits(m.From) {
		return false
	}
	for c := range span(m.From, to).cells() {
		if !g.Open(c) {
			return false
		}
	}
	return true
}

// Swept are the cells that a move sweeps.
func (g *Grid) Swept(m api.Move) []api.Cell {
	if !g.Legal(m) {
		return nil
	}
	b := span(m.From, m.To)
	return slices.AppendSeq(make([]api.Cell, 0, b.size()), b.cells())
}

// Moves goes through a pose's runs and its turn.
func (g *Grid) Moves(p api.Pose) iter.Seq[api.Move] {
	return func(yield func(api.Move) bool) {
		if !g.Fits(p) {
			return
		}
	directions:
		for dir := api.North; dir <= api.West; dir++ {
			for n := 1; ; n++ {
				to, ok := g.Shift(p, dir, n)
				// The poses nearer by have been asked already: this one alone can end the run.
				if !ok || !g.Fits(to) {
					continue directions
				}
				if !yield(api.Move{Kind: api.Run, Dir: dir, N: n, From: p, To: to}) {
					return
				}
			}
		}
		if m := (api.Move{Kind: api.Turn, From: p, To: turned(p)}); g.Legal(m) {
			yield(m)
		}
	}
}

// leads is the pose that a move leads to, wherever that is; and whether it is a move at all.
func (g *Grid) leads(m api.Move) (api.Pose, bool) {
	still := m.Dir == 0 && m.N == 0
	switch m.Kind {
	case api.Run:
		// A run of more cells than Shift takes would leave any grid.
		to, ok := g.Shift(m.From, m.Dir, m.N)
		return to, ok && m.N > 0
	case api.Turn:
		return turned(m.From), still
	case api.Lift, api.Drop:
		return m.From, still
	}
	return api.Pose{}, false
}

// turned is a pose with Down turned.
func turned(p api.Pose) api.Pose {
	return api.Pose{At: p.At, Down: !p.Down}
}

// box is a rectangle of cells, both corners in it.
type box struct {
	northWest, southEast api.Cell
}

// span is the least box with the cells of both poses.
// Where one pose leads to the other by a move, that is just what the move sweeps: a run's poses lie in one straight band, and a turn's lie in the square that it needs.
func span(a, b api.Pose) box {
	c, d := second(a), second(b)
	return box{
		northWest: api.Cell{X: min(a.At.X, b.At.X), Y: min(a.At.Y, b.At.Y)},
		southEast: api.Cell{X: max(c.X, d.X), Y: max(c.Y, d.Y)},
	}
}

// size is how many cells a box has.
func (b box) size() int {
	return (b.southEast.X - b.northWest.X + 1) * (b.southEast.Y - b.northWest.Y + 1)
}

// cells goes through a box's cells in order.
func (b box) cells() iter.Seq[api.Cell] {
	return func(yield func(api.Cell) bool) {
		for y := b.northWest.Y; y <= b.southEast.Y; y++ {
			for x := b.northWest.X; x <= b.southEast.X; x++ {
				if !yield(api.Cell{X: x, Y: y}) {
					return
				}
			}
		}
	}
}
