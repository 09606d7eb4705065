package grid

import (
	"slices"

	"skep/api"
)

const (
	// most is the greatest number of ticks, units and speeds in a config.
	most = 1000
	// lastBin is the greatest number of a bin.
	lastBin = 1000000000
)

// May tells whether a config may be.
func May(c api.Conf) bool {
	_, e := New(c)
	return e == api.OK
}

// New is a config's grid.
func New(c api.Conf) (*Grid, api.Errno) {
	// Ahead of the cells: there is room only for sides within their limits.
	if !limited(c) {
		return nil, api.ErrConf
	}
	g := &Grid{w: c.W, h: c.H, uses: make([]use, c.W*c.H)}
	// In this order: each part is held against what was laid by then.
	if !g.block(c.Blocked) || !g.layPorts(c.Ports) || !g.park(c.Robots) {
		return nil, api.ErrConf
	}
	g.layStackCells()
	if !g.carries(c.Stacks, c.Height) {
		return nil, api.ErrConf
	}
	return g, api.OK
}

// limited tells whether each number of a config is within its limits.
func limited(c api.Conf) bool {
	for _, v := range []int{c.Unit, c.Accel, c.Speed, c.Turn, c.Hoist, c.Resend} {
		if !upTo(v, most) {
			return false
		}
	}
	return upTo(c.W, api.MaxSide) && upTo(c.H, api.MaxSide) && upTo(c.Height, api.MaxHeight) &&
		upTo(c.Queue, api.MaxQueue) && upTo(c.Budget, api.MaxBudget)
}

// upTo tells whether a number is from 1 to the greatest one.
func upTo(v, greatest int) bool {
	return v >= 1 && v <= greatest
}

// take gives a cell its use, and tells whether it could: the cell is in the grid and had none.
func (g *Grid) take(c api.Cell, u use) bool {
	i := g.Number(c)
	if i < 0 || g.uses[i] != unused {
		return false
	}
	g.uses[i] = u
	return true
}

// block lays the blocked cells, and tells whether they may be.
func (g *Grid) block(cells []api.Cell) bool {
	for _, c := range cells {
		if !g.take(c, blocked) {
			return false
		}
	}
	return true
}

// layPorts lays the ports behind the blocked cells, and tells whether they may be.
func (g *Grid) layPorts(cells []api.Cell) bool {
	if len(cells) > api.MaxPorts {
		return false
	}
	for _, c := range cells {
		if !g.take(c, port) || !g.served(c) {
			return false
		}
	}
	g.ports = slices.Clone(cells)
	return true
}

// park lays the robots' homes behind the ports, and tells whether they may be.
func (g *Grid) park(poses []api.Pose) bool {
	if len(poses) > api.MaxRobots {
		return false
	}
	for _, p := range poses {
		if !g.take(p.At, home) || !g.take(second(p), home) {
			return false
		}
	}
	return true
}

// layStackCells makes stack cells of those that have no other use, where a robot can serve them.
func (g *Grid) layStackCells() {
	for i, u := range g.uses {
		if u == unused && g.served(g.cell(i)) {
			g.uses[i] = stack
		}
	}
}

// served tells whether a neighbour is open that a robot with its first cell here would have as its second.
func (g *Grid) served(c api.Cell) bool {
	return g.Open(east(c)) || g.Open(south(c))
}

// carries tells whether these stacks may stand on the stack cells.
func (g *Grid) carries(stacks []api.Stack, height int) bool {
	stood := make([]bool, len(g.uses))
	var bins []int
	for _, s := range stacks {
		// Stacked first: a cell out of the grid has no place in stood.
		if !g.Stacked(s.At) || stood[g.Number(s.At)] || len(s.Bins) > height {
			return false
		}
		stood[g.Number(s.At)] = true
		bins = append(bins, s.Bins...)
	}
	return mayBe(bins)
}

// mayBe tells whether these bins may be in one config; it sorts the list.
func mayBe(bins []int) bool {
	if len(bins) > api.MaxBins {
		return false
	}
	slices.Sort(bins)
	for i, b := range bins {
		if !upTo(b, lastBin) || i > 0 && b == bins[i-1] {
			return false
		}
	}
	return true
}
