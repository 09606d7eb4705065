package resv_test

import (
	"slices"
	"testing"

	"skep/api"
	"skep/resv"
)

// call is one that is asked of a table and of a model.
type call struct {
	kind, robot, cell, a, b int
	l                       []resv.Want
}

// Kinds of calls.
const (
	claim = iota
	extend
	release
	expire
	clearing
	kinds
)

// both fails unless the table answers what the model does.
func both(t *testing.T, x *resv.Table, m *model, c call) {
	t.Helper()
	var got, want api.Errno
	switch c.kind {
	case claim:
		got, want = x.Claim(c.robot, c.l), m.claim(c.robot, c.l)
	case extend:
		got, want = x.Extend(c.robot, c.cell, c.a, c.b), m.extend(c.robot, c.cell, c.a, c.b)
	case release:
		x.Release(c.robot, c.a)
		m.take(c.a, c.robot)
	case expire:
		x.Expire(c.a)
		m.take(c.a)
	case clearing:
		x.Clear(c.robot)
		m.take(end, c.robot)
	}
	if got != want {
		t.Fatalf("%+v: error %d, want %d", c, got, want)
	}
}

// drawWant is a want of a model's cells and edges; seldom one that may not be.
func drawWant(luck *chance, m *model) resv.Want {
	from := luck.below(len(m.edges) - 1)
	to := from + 1 + luck.below(min(4, len(m.edges)-1-from))
	w := want(luck.below(len(m.owner)), m.edges[from], m.edges[to])
	switch luck.below(60) {
	case 0:
		w.Cell = len(m.owner)
	case 1:
		w.To = w.From
	}
	return w
}

// drawCall is any call of so many robots.
func drawCall(luck *chance, m *model, robots int) call {
	c := call{kind: max(0, luck.below(kinds+8)-8), robot: luck.below(robots), cell: luck.below(len(m.owner))}
	switch c.kind {
	case claim:
		for range luck.below(4) {
			c.l = append(c.l, drawWant(luck, m))
		}
		if luck.below(40) == 0 {
			c.robot = -1
		}
	case extend:
		// A slot that is there, and so much more that its To lies on an edge.
		if l := m.slots(c.cell); len(l) > 0 {
			s := l[luck.below(len(l))]
			c.robot, c.a = s.Robot, s.From
			c.b = m.edges[luck.below(len(m.edges))] - s.To
		}
	default:
		c.a = m.edges[luck.below(len(m.edges)/2)]
	}
	return c
}

// P11.1 to P11.5: behind any row of calls the table tells what the model does, and a cell's ticks are one robot's or nobody's.
func TestRows(t *testing.T) {
	var luck chance = 7
	for range 150 {
		cells, robots := 1+luck.below(4), 1+luck.below(4)
		x, m := made(t, cells), modelOf(cells, someEdges())
		for range 80 {
			both(t, x, m, drawCall(&luck, m, robots))
			sound(t, x)
			same(t, x, m, -1, 0, 1, 2, 3, 4)
		}
	}
}

// everyCall is all calls of two robots at one cell, as far as they lie on the edges.
func everyCall(edges []int) []call {
	var out []call
	for robot := range 2 {
		for i, from := range edges {
			for _, to := range edges[i+1:] {
				out = append(out, call{kind: claim, robot: robot, l: []resv.Want{want(0, from, to)}})
			}
			for _, to := range edges {
				for _, other := range edges {
					out = append(out, call{kind: extend, robot: robot, a: from, b: to - other})
				}
			}
			out = append(out, call{kind: release, robot: robot, a: from}, call{kind: expire, a: from})
		}
		out = append(out, call{kind: clearing, robot: robot})
	}
	return out
}

// onEdge tells whether all that a call would give lies on the edges, so that the model can tell of it.
func onEdge(m *model, c call) bool {
	if c.kind != extend || c.b <= 0 {
		return true
	}
	for _, s := range m.slots(0) {
		if s.Robot == c.robot && s.From <= c.a && c.a < s.To && c.b < end-s.To {
			return slices.Contains(m.edges, s.To+c.b)
		}
	}
	return true
}

// P11.2 to P11.4: every call at every state that two robots can have one cell in.
func TestEveryCall(t *testing.T) {
	edges := []int{0, 1, 2, end - 2, end - 1, end}
	calls := everyCall(edges)
	owners := slices.Repeat([]int{nobody}, len(edges)-1)
	for {
		for _, c := range calls {
			x, m := made(t, 1), modelOf(1, edges)
			for unit, of := range owners {
				if of != nobody {
					both(t, x, m, call{kind: claim, robot: of, l: []resv.Want{want(0, edges[unit], edges[unit+1])}})
				}
			}
			if !onEdge(m, c) {
				continue
			}
			both(t, x, m, c)
			sound(t, x)
			same(t, x, m, 0, 1, 2)
		}
		i := 0
		for i < len(owners) && owners[i] == 1 {
			owners[i] = nobody
			i++
		}
		if i == len(owners) {
			return
		}
		owners[i]++
	}
}

// told is all that a table tells of its cells.
func told(x *resv.Table, robots int) [][]stretch {
	var out [][]stretch
	for cell := range x.Cells() {
		for r := range robots {
			out = append(out, gaps(x, cell, r, 999))
		}
	}
	return out
}

// filled is a table behind a row of calls of three robots, and what each cell has.
func filled(t *testing.T, luck *chance) (*resv.Table, *model) {
	t.Helper()
	x, m := made(t, 3), modelOf(3, someEdges())
	for range 10 {
		both(t, x, m, drawCall(luck, m, 3))
	}
	return x, m
}

// P11.5: a claim that is refused changes nothing; a claim and Clear of a robot that had nothing leave what was there.
func TestClaimAndClear(t *testing.T) {
	var luck chance = 29
	refused, taken := 0, 0
	for range 3000 {
		x, m := filled(t, &luck)
		l := []resv.Want{drawWant(&luck, m), drawWant(&luck, m), drawWant(&luck, m)}
		was := told(x, 5)
		e := x.Claim(4, l)
		if e == api.OK {
			taken++
			if slices.EqualFunc(told(x, 5), was, slices.Equal) {
				t.Fatalf("a claim of %v changed nothing", l)
			}
			x.Clear(4)
		} else {
			refused++
		}
		if !slices.EqualFunc(told(x, 5), was, slices.Equal) {
			t.Fatalf("error %d behind a claim of %v: %v, want %v", e, l, told(x, 5), was)
		}
		same(t, x, m, 0, 1, 2, 3, 4)
	}
	if refused < 100 || taken < 100 {
		t.Errorf("%d refused, %d taken", refused, taken)
	}
}

// P11.3, P11.2: what Gaps tells can be claimed, just that, and not a tick more.
func TestGapsCanBeClaimed(t *testing.T) {
	var luck chance = 31
	for range 300 {
		x, _ := filled(t, &luck)
		for cell := range 3 {
			for _, g := range gaps(x, cell, 1, 99) {
				if g.from > 0 {
					claims(t, x, 1, api.ErrTaken, want(cell, g.from-1, g.to))
				}
				if g.to < end {
					claims(t, x, 1, api.ErrTaken, want(cell, g.from, g.to+1))
				}
				claims(t, x, 1, api.OK, want(cell, g.from, g.to))
			}
			sound(t, x)
		}
	}
}

// R1: a great many slots and wants are taken in one call, and in many.
func TestMany(t *testing.T) {
	x := made(t, 256)
	var l []resv.Want
	for i := range 100000 {
		l = append(l, want(i%2, 10*i, 10*i+5))
	}
	slices.Reverse(l)
	claims(t, x, 0, api.OK, l...)
	if len(x.Slots(0)) != 50000 || len(x.Slots(1)) != 50000 {
		t.Error(len(x.Slots(0)), len(x.Slots(1)))
	}
	for i := range 1000 {
		claims(t, x, 1, api.OK, want(0, 10*i+5, 10*i+10))
		extends(t, x, 0, 1, 20*i+10, 5, api.OK)
	}
	if len(x.Slots(0)) != 51000 || len(x.Slots(1)) != 50000 || len(gaps(x, 0, 1, 99999)) != 50000 {
		t.Error(len(x.Slots(0)), len(x.Slots(1)), len(gaps(x, 0, 1, 99999)))
	}
	claims(t, x, 0, api.OK, want(1, 0, end))
	has(t, x, 1, slot(0, 0, end))
}
