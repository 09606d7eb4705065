package grid_test

import (
	"cmp"
	"fmt"
	"math"
	"slices"
	"testing"

	"skep/api"
	"skep/grid"
)

// chance is numbers that look like any, the same at each run.
type chance uint64

func (c *chance) below(n int) int {
	*c = *c*6364136223846793005 + 1442695040888963407
	return int(uint64(*c)>>33) % n
}

// at is a cell; to is a pose to the east of it, down is one to the south.
func at(x, y int) api.Cell   { return api.Cell{X: x, Y: y} }
func to(x, y int) api.Pose   { return api.Pose{At: at(x, y)} }
func down(x, y int) api.Pose { return api.Pose{At: at(x, y), Down: true} }

// bare is a config of nothing but cells.
func bare(w, h int) api.Conf {
	return api.Conf{W: w, H: h, Height: 3, Unit: 10, Accel: 2, Speed: 4, Turn: 5, Hoist: 6, Queue: 4, Resend: 20, Budget: 500}
}

// busy is a config with some of everything.
func busy() api.Conf {
	c := bare(6, 5)
	c.Blocked = []api.Cell{at(2, 1), at(4, 3), at(3, 4)}
	c.Ports = []api.Cell{at(5, 0), at(0, 4), at(1, 1)}
	c.Robots = []api.Pose{to(0, 0), down(5, 2)}
	c.Stacks = []api.Stack{{At: at(3, 0), Bins: []int{7, 8}}, {At: at(0, 2), Bins: []int{1, 1000000000, 5}}, {At: at(1, 3)}}
	return c
}

// walled is a config whose blocked cells leave narrow ways, and cells that are of no use to a robot.
func walled() api.Conf {
	c := bare(5, 5)
	c.Blocked = []api.Cell{at(1, 1), at(3, 1), at(1, 3), at(3, 3), at(4, 2), at(2, 4)}
	c.Ports = []api.Cell{at(2, 0)}
	c.Robots = []api.Pose{to(0, 2)}
	return c
}

// grids is configs of some shapes.
func grids() []api.Conf {
	out := []api.Conf{bare(1, 1), bare(1, 2), bare(2, 1), bare(2, 2), bare(3, 2), bare(2, 3), bare(16, 1), bare(1, 16), bare(5, 4), busy(), walled()}
	full := bare(3, 3)
	full.Blocked = inGrid(full)
	out = append(out, full)
	pair := bare(2, 1)
	pair.Robots = []api.Pose{to(0, 0)}
	out = append(out, pair)
	var luck chance = 7
	for range 12 {
		c := bare(1+luck.below(7), 1+luck.below(7))
		for _, b := range inGrid(c) {
			if luck.below(6) == 0 {
				c.Blocked = append(c.Blocked, b)
			}
		}
		out = append(out, c)
	}
	return out
}

// made is a config's grid; it fails, if there is none.
func made(t *testing.T, c api.Conf) *grid.Grid {
	t.Helper()
	g, e := grid.New(c)
	if g == nil || e != api.OK {
		t.Fatalf("New: %v, error %d, of %+v", g, e, c)
	}
	return g
}

// inGrid is the cells of a config's grid, in order.
func inGrid(c api.Conf) []api.Cell {
	var out []api.Cell
	for y := range max(c.H, 0) {
		for x := range max(c.W, 0) {
			out = append(out, at(x, y))
		}
	}
	return out
}

// ends is numbers near the ends of their range, and near powers of two that a product with a side could wrap round.
func ends() []int {
	out := []int{math.MinInt, math.MinInt + 1, math.MaxInt - 1, math.MaxInt}
	for _, i := range []int{8, 31, 32, 40, 59, 60, 61, 62} {
		out = append(out, 1<<i, 1<<i+1, -1<<i, -1<<i-1)
	}
	return out
}

// around is the cells of a grid, those about it, and cells with numbers near the ends of their range.
func around(c api.Conf) []api.Cell {
	var out []api.Cell
	for y := -2; y <= c.H+2; y++ {
		for x := -2; x <= c.W+2; x++ {
			out = append(out, at(x, y))
		}
	}
	for _, v := range ends() {
		out = append(out, at(v, 0), at(0, v), at(v, v), at(c.W-1, v), at(v, c.H-1), at(v, -v))
	}
	return out
}

// poses is both poses of each of these cells.
func poses(cells []api.Cell) []api.Pose {
	var out []api.Pose
	for _, c := range cells {
		out = append(out, api.Pose{At: c}, api.Pose{At: c, Down: true})
	}
	return out
}

// plainOpen tells by the chapter's words whether a cell is open.
func plainOpen(c api.Conf, at api.Cell) bool {
	return at.X >= 0 && at.X < c.W && at.Y >= 0 && at.Y < c.H && !slices.Contains(c.Blocked, at)
}

// plainCells is a pose's cells by the chapter's words.
func plainCells(p api.Pose) []api.Cell {
	if p.Down {
		return []api.Cell{p.At, at(p.At.X, p.At.Y+1)}
	}
	return []api.Cell{p.At, at(p.At.X+1, p.At.Y)}
}

// plainFits tells by the chapter's words whether a pose fits.
func plainFits(c api.Conf, p api.Pose) bool {
	for _, at := range plainCells(p) {
		if !plainOpen(c, at) {
			return false
		}
	}
	return true
}

// plainStacked tells by the chapter's words whether a cell is a stack cell.
func plainStacked(c api.Conf, cell api.Cell) bool {
	if !plainOpen(c, cell) || slices.Contains(c.Ports, cell) {
		return false
	}
	for _, p := range c.Robots {
		if slices.Contains(plainCells(p), cell) {
			return false
		}
	}
	return plainFits(c, api.Pose{At: cell}) || plainFits(c, api.Pose{At: cell, Down: true})
}

// plainStep is a pose one cell further in a direction.
func plainStep(p api.Pose, dir int) api.Pose {
	steps := map[int]api.Cell{api.North: at(0, -1), api.East: at(1, 0), api.South: at(0, 1), api.West: at(-1, 0)}
	p.At.X += steps[dir].X
	p.At.Y += steps[dir].Y
	return p
}

// plainSwept is a move's swept cells by the chapter's words, in order; none, if it is not legal.
func plainSwept(c api.Conf, m api.Move) []api.Cell {
	if !plainFits(c, m.From) {
		return nil
	}
	swept := map[api.Cell]int{}
	sweep := func(p api.Pose) {
		for _, at := range plainCells(p) {
			swept[at]++
		}
	}
	sweep(m.From)
	leads := m.From
	switch m.Kind {
	case api.Run:
		if m.N < 1 || m.Dir < 0 || m.Dir > 3 {
			return nil
		}
		for range m.N {
			leads = plainStep(leads, m.Dir)
			if !plainFits(c, leads) {
				return nil
			}
			sweep(leads)
		}
	case api.Turn:
		leads.Down = !leads.Down
		sweep(leads)
		swept[at(leads.At.X+1, leads.At.Y+1)]++
	case api.Lift, api.Drop:
	default:
		return nil
	}
	if m.Kind != api.Run && (m.Dir != 0 || m.N != 0) || m.To != leads {
		return nil
	}
	var out []api.Cell
	for at := range swept {
		if !plainOpen(c, at) {
			return nil
		}
		out = append(out, at)
	}
	slices.SortFunc(out, inOrder)
	return out
}

// inOrder holds two cells against each other: by Y, then by X.
func inOrder(a, b api.Cell) int {
	return cmp.Or(cmp.Compare(a.Y, b.Y), cmp.Compare(a.X, b.X))
}

// plainMoves is the legal runs and turns of a pose, as the chapter orders them.
func plainMoves(c api.Conf, p api.Pose) []api.Move {
	var out []api.Move
	for dir := range 4 {
		leads := p
		for n := 1; n <= 20; n++ {
			leads = plainStep(leads, dir)
			m := api.Move{Kind: api.Run, Dir: dir, N: n, From: p, To: leads}
			if len(plainSwept(c, m)) > 0 {
				out = append(out, m)
			}
		}
	}
	m := api.Move{Kind: api.Turn, From: p, To: api.Pose{At: p.At, Down: !p.Down}}
	if len(plainSwept(c, m)) > 0 {
		out = append(out, m)
	}
	return out
}

// plainMay tells by the chapter's words, one by one, why a config may not be; "", if it may.
func plainMay(c api.Conf) string {
	limits := []struct{ v, greatest int }{
		{c.W, 16}, {c.H, 16}, {c.Height, 8}, {c.Unit, 1000}, {c.Accel, 1000}, {c.Speed, 1000},
		{c.Turn, 1000}, {c.Hoist, 1000}, {c.Resend, 1000}, {c.Queue, 16}, {c.Budget, 1048576},
	}
	for i, l := range limits {
		if l.v < 1 || l.v > l.greatest {
			return fmt.Sprint("number ", i)
		}
	}
	seen := map[api.Cell]int{}
	for _, at := range slices.Concat(c.Blocked, c.Ports) {
		seen[at]++
		if !slices.Contains(inGrid(c), at) || seen[at] > 1 {
			return "blocked, ports"
		}
	}
	for _, p := range c.Ports {
		if !plainFits(c, api.Pose{At: p}) && !plainFits(c, api.Pose{At: p, Down: true}) {
			return "a port that no robot can serve"
		}
	}
	homes := map[api.Cell]int{}
	for _, p := range c.Robots {
		for _, at := range plainCells(p) {
			homes[at]++
			if homes[at] > 1 || !plainOpen(c, at) || slices.Contains(c.Ports, at) {
				return "robots"
			}
		}
	}
	if len(c.Ports) > 8 || len(c.Robots) > 8 {
		return "too many ports, robots"
	}
	return plainMayStand(c)
}

// plainMayStand tells by the chapter's words why a config's stacks may not be; "", if they may.
func plainMayStand(c api.Conf) string {
	stood, bins := map[api.Cell]int{}, map[int]int{}
	for _, s := range c.Stacks {
		stood[s.At]++
		if stood[s.At] > 1 || !plainStacked(c, s.At) || len(s.Bins) > c.Height {
			return "stacks"
		}
		for _, b := range s.Bins {
			bins[b]++
			if bins[b] > 1 || b < 1 || b > 1000000000 {
				return "bins"
			}
		}
	}
	if len(bins) > 512 {
		return "too many bins"
	}
	return ""
}
