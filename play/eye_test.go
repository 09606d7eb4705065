package play_test

import (
	"slices"

	"skep/api"
	"skep/grid"
)

// body is a robot as it is seen.
type body struct {
	pose  api.Pose
	load  int
	moves bool
	move  api.Move
	// Whether its bin was lifted or dropped in the move.
	done bool
}

// eye follows sights, and tells the first one that cannot be.
type eye struct {
	c      api.Conf
	grid   *grid.Grid
	bodies []body
	stand  map[api.Cell][]int
	last   api.Sight
}

// newEye is one at a config's beginning.
func newEye(c api.Conf) *eye {
	g, _ := grid.New(c)
	y := &eye{c: c, grid: g, stand: map[api.Cell][]int{}}
	for _, p := range c.Robots {
		y.bodies = append(y.bodies, body{pose: p})
	}
	for _, l := range c.Stacks {
		y.stand[l.At] = slices.Clone(l.Bins)
	}
	return y
}

// has is a robot's cells.
func (y *eye) has(i int) []api.Cell {
	b := y.bodies[i]
	if b.moves {
		return y.grid.Swept(b.move)
	}
	l := y.grid.Cells(b.pose)
	return l[:]
}

// free tells whether no other robot has one of these cells.
func (y *eye) free(i int, cells []api.Cell) bool {
	for j := range y.bodies {
		if j != i && slices.ContainsFunc(y.has(j), func(c api.Cell) bool { return slices.Contains(cells, c) }) {
			return false
		}
	}
	return true
}

// room is how many bins a cell has room for.
func (y *eye) room(c api.Cell) int {
	if y.grid.Port(c) >= 0 {
		return 1
	}
	if y.grid.Stacked(c) {
		return y.c.Height
	}
	return 0
}

// see tells whether a sight can be, and goes on to what is there behind it.
func (y *eye) see(s api.Sight) bool {
	if s.Robot < 0 || s.Robot >= len(y.bodies) || s.Tick < y.last.Tick {
		return false
	}
	last := y.last
	y.last = s
	b := &y.bodies[s.Robot]
	bins := y.stand[b.pose.At]
	if s.Pose != b.pose && s.Kind != api.SeEnd {
		return false
	}
	switch s.Kind {
	case api.SeStart:
		if b.moves || s.Move.From != s.Pose || !y.grid.Legal(s.Move) || !y.free(s.Robot, y.grid.Swept(s.Move)) {
			return false
		}
		b.moves, b.move, b.done = true, s.Move, false
	case api.SeLift:
		if !b.moves || b.done || b.move.Kind != api.Lift || b.load != 0 || len(bins) == 0 || bins[len(bins)-1] != s.Bin {
			return false
		}
		b.load, b.done, y.stand[b.pose.At] = s.Bin, true, bins[:len(bins)-1]
	case api.SeDrop:
		if !b.moves || b.done || b.move.Kind != api.Drop || b.load != s.Bin || s.Bin == 0 || len(bins) >= y.room(b.pose.At) {
			return false
		}
		b.load, b.done, y.stand[b.pose.At] = 0, true, append(slices.Clip(bins), s.Bin)
	case api.SeDeliver:
		dropped := s
		dropped.Kind = api.SeDrop
		return last == dropped && y.grid.Port(b.pose.At) >= 0
	case api.SeEnd:
		return y.end(b, s)
	case api.SeHalt:
		return !b.moves
	case api.SeRefuse:
	default:
		return false
	}
	return true
}

// end tells whether a move can have ended so.
func (y *eye) end(b *body, s api.Sight) bool {
	want := b.move
	if want.Kind == api.Run && s.Move.N >= 0 && s.Move.N <= want.N {
		want.N = s.Move.N
		want.To, _ = y.grid.Shift(want.From, want.Dir, want.N)
	}
	hoist := want.Kind == api.Lift || want.Kind == api.Drop
	if !b.moves || s.Move != want || s.Pose != want.To || s.Bin != 0 || b.done != hoist {
		return false
	}
	b.moves, b.pose = false, s.Pose
	return true
}
