package stacks_test

import (
	"math"
	"slices"
	"testing"

	"skep/api"
	"skep/stacks"
)

// chance is numbers that look like any, the same at each run.
type chance uint64

func (c *chance) below(n int) int {
	*c = *c*6364136223846793005 + 1442695040888963407
	return int(uint64(*c)>>33) % n
}

// at is a cell; to is a pose to the east of it, down is one to the south.
func at(x, y int) api.Cell   { return api.Cell{X: x, Y: y} }
func to(x, y int) api.Pose   { return api.Pose{At: at(x, y)} }
func down(x, y int) api.Pose { return api.Pose{At: at(x, y), Down: true} }

// bare is a config of nothing but cells.
func bare(w, h int) api.Conf {
	return api.Conf{W: w, H: h, Height: 3, Unit: 10, Accel: 2, Speed: 4, Turn: 5, Hoist: 6, Queue: 4, Resend: 20, Budget: 500}
}

// busy is a config with some of everything:
//
//	h h s s s p	the stacks: 7, 8 at 3, 0; Height bins at 0, 2; none at 1, 3; one at 4, 4
//	s p # s s s
//	s s s s s h
//	s s s . # h
//	p s . # s .
func busy() api.Conf {
	c := bare(6, 5)
	c.Blocked = []api.Cell{at(2, 1), at(4, 3), at(3, 4)}
	c.Ports = []api.Cell{at(5, 0), at(0, 4), at(1, 1)}
	c.Robots = []api.Pose{to(0, 0), down(5, 2)}
	c.Stacks = []api.Stack{{At: at(3, 0), Bins: []int{7, 8}}, {At: at(4, 4), Bins: []int{3}}, {At: at(0, 2), Bins: []int{1, 1000000000, 5}}, {At: at(1, 3)}}
	return c
}

// full is a config with MaxBins bins, in stacks of eight.
func full() api.Conf {
	c := bare(16, 16)
	c.Height = 8
	c.Ports = []api.Cell{at(15, 0), at(0, 15)}
	c.Robots = []api.Pose{to(7, 15)}
	for i := range 64 {
		s := api.Stack{At: at(i%8, 1+i/8)}
		for j := range 8 {
			s.Bins = append(s.Bins, 5000-(8*i+j))
		}
		c.Stacks = append(c.Stacks, s)
	}
	return c
}

// confs is configs of some shapes that may be.
func confs() []api.Conf {
	shut := bare(3, 3)
	shut.Blocked = inGrid(shut)
	flat := bare(4, 2)
	flat.Height = 1
	flat.Ports = []api.Cell{at(3, 0)}
	flat.Robots = []api.Pose{to(0, 1)}
	flat.Stacks = []api.Stack{{At: at(0, 0), Bins: []int{4}}, {At: at(2, 0), Bins: []int{2}}}
	many := bare(16, 3)
	for i := range 8 {
		many.Robots = append(many.Robots, to(2*i, 0))
		many.Ports = append(many.Ports, at(2*i, 1))
		many.Stacks = append(many.Stacks, api.Stack{At: at(i, 2), Bins: []int{30 - i, 60 - i, i + 1}})
	}
	return []api.Conf{bare(1, 1), bare(1, 3), bare(3, 1), bare(5, 4), shut, flat, many, busy()}
}

// made is a config's stacks; it fails, if there are none.
func made(t *testing.T, c api.Conf) *stacks.Stacks {
	t.Helper()
	s, e := stacks.New(c)
	if s == nil || e != api.OK {
		t.Fatalf("New: %v, error %d, of %+v", s, e, c)
	}
	return s
}

// inGrid is the cells of a config's grid, in order.
func inGrid(c api.Conf) []api.Cell {
	var out []api.Cell
	for y := range c.H {
		for x := range c.W {
			out = append(out, at(x, y))
		}
	}
	return out
}

// ends is numbers near the ends of their range, and near powers of two that a product with a side could wrap round.
func ends() []int {
	out := []int{math.MinInt, math.MinInt + 1, math.MaxInt - 1, math.MaxInt}
	for _, i := range []int{8, 31, 32, 59, 60, 61, 62} {
		out = append(out, 1<<i, 1<<i+1, -1<<i, -1<<i-1)
	}
	return out
}

// around is the cells of a grid, those about it, and cells with numbers near the ends of their range.
func around(c api.Conf) []api.Cell {
	var out []api.Cell
	for y := -2; y <= c.H+1; y++ {
		for x := -2; x <= c.W+1; x++ {
			out = append(out, at(x, y))
		}
	}
	for _, v := range ends() {
		out = append(out, at(v, 0), at(0, v), at(v, v), at(c.W-1, v), at(v, c.H-1))
	}
	return out
}

// robots is the numbers of a config's robots, and such as there are not.
func robots(c api.Conf) []int {
	n := len(c.Robots)
	out := append(ends(), -n-1, -n, -2, -1, n+1)
	for i := range n + 1 {
		out = append(out, i)
	}
	return out
}

// plainOpen tells by the words of grid's chapter whether a cell is open.
func plainOpen(c api.Conf, at api.Cell) bool {
	return slices.Contains(inGrid(c), at) && !slices.Contains(c.Blocked, at)
}

// plainHome tells whether a cell is one of a robot's pose in the config.
func plainHome(c api.Conf, cell api.Cell) bool {
	return slices.ContainsFunc(c.Robots, func(p api.Pose) bool {
		if p.Down {
			return cell == p.At || cell == at(p.At.X, p.At.Y+1)
		}
		return cell == p.At || cell == at(p.At.X+1, p.At.Y)
	})
}

// plainRoom is by the chapters' words how many bins an open cell has room for.
func plainRoom(c api.Conf, cell api.Cell) int {
	switch {
	case slices.Contains(c.Ports, cell):
		return 1
	case plainHome(c, cell):
		return 0
	case plainOpen(c, at(cell.X+1, cell.Y)) || plainOpen(c, at(cell.X, cell.Y+1)):
		return c.Height
	}
	return 0
}

// model is where each bin is, by the chapter's words.
type model struct {
	c     api.Conf
	stand map[api.Cell][]int
	loads map[int]int
	bins  []int
}

// modelOf is a config's.
func modelOf(c api.Conf) *model {
	m := &model{c: c, stand: map[api.Cell][]int{}, loads: map[int]int{}}
	for _, s := range c.Stacks {
		m.stand[s.At] = slices.Clone(s.Bins)
		m.bins = append(m.bins, s.Bins...)
	}
	slices.Sort(m.bins)
	return m
}

// wrong tells whether there is no such robot, or the cell is not open.
func (m *model) wrong(robot int, c api.Cell) bool {
	return robot < 0 || robot >= len(m.c.Robots) || !plainOpen(m.c, c)
}

func (m *model) lift(robot int, c api.Cell) (int, api.Errno) {
	l := m.stand[c]
	switch {
	case m.wrong(robot, c):
		return 0, api.ErrArg
	case m.loads[robot] != 0:
		return 0, api.ErrState
	case len(l) == 0:
		return 0, api.ErrNone
	}
	m.loads[robot], m.stand[c] = l[len(l)-1], l[:len(l)-1]
	return m.loads[robot], api.OK
}

func (m *model) drop(robot int, c api.Cell) api.Errno {
	switch {
	case m.wrong(robot, c):
		return api.ErrArg
	case m.loads[robot] == 0:
		return api.ErrState
	case len(m.stand[c]) >= plainRoom(m.c, c):
		return api.ErrFull
	}
	m.stand[c], m.loads[robot] = append(m.stand[c], m.loads[robot]), 0
	return api.OK
}

// find is where a bin stands.
func (m *model) find(bin int) (api.Cell, int, bool) {
	for c, l := range m.stand {
		if i := slices.Index(l, bin); i >= 0 {
			return c, len(l) - i - 1, true
		}
	}
	return api.Cell{}, 0, false
}

// same fails unless the stacks tell all that the model does.
func same(t *testing.T, s *stacks.Stacks, m *model) {
	t.Helper()
	sameCells(t, s, m)
	for _, r := range robots(m.c) {
		if got := s.Load(r); got != m.loads[r] {
			t.Fatalf("Load %d: %d, want %d", r, got, m.loads[r])
		}
	}
	for _, b := range slices.Concat(ends(), []int{-8, -7, -1, 0, 1, 2, 999999999}, m.bins) {
		c, above, ok := s.Find(b)
		wantC, wantAbove, wantOK := m.find(b)
		if c != wantC || above != wantAbove || ok != wantOK {
			t.Fatalf("Find %d: %v, %d, %v, want %v, %d, %v", b, c, above, ok, wantC, wantAbove, wantOK)
		}
	}
	if got := s.Bins(); !slices.Equal(got, m.bins) {
		t.Fatalf("Bins: %v, want %v", got, m.bins)
	}
}

// sameCells fails unless the stacks tell of each cell what the model does, one by one and by All.
func sameCells(t *testing.T, s *stacks.Stacks, m *model) {
	t.Helper()
	var open []api.Cell
	for _, c := range around(m.c) {
		l := m.stand[c]
		height, top := len(l), 0
		if !plainOpen(m.c, c) {
			height = -1
		}
		if height > 0 {
			top = l[height-1]
		}
		if s.Height(c) != height || s.Top(c) != top || !slices.Equal(s.At(c), l) {
			t.Fatalf("%v: %d high, %d on top, %v; want %d, %d, %v", c, s.Height(c), s.Top(c), s.At(c), height, top, l)
		}
	}
	for c, l := range s.All() {
		if !slices.Equal(l, m.stand[c]) {
			t.Fatalf("All: %v at %v, want %v", l, c, m.stand[c])
		}
		open = append(open, c)
	}
	want := slices.DeleteFunc(inGrid(m.c), func(c api.Cell) bool { return !plainOpen(m.c, c) })
	if !slices.Equal(open, want) {
		t.Fatalf("All: %v, want %v", open, want)
	}
}
