package resv_test

import (
	"math"
	"slices"
	"testing"

	"skep/api"
	"skep/resv"
)

// end is the tick at which all time ends.
const end = api.Forever

// nobody has a unit that no robot has.
const nobody = -1

// chance is numbers that look like any, the same at each run.
type chance uint64

func (c *chance) below(n int) int {
	*c = *c*6364136223846793005 + 1442695040888963407
	return int(uint64(*c)>>33) % n
}

// ends is numbers near the ends of their range, and near powers of two.
func ends() []int {
	out := []int{math.MinInt, math.MinInt + 1, math.MaxInt - 1, math.MaxInt}
	for _, i := range []int{8, 16, 31, 32, 61, 62} {
		out = append(out, 1<<i, 1<<i+1, -1<<i, -1<<i-1)
	}
	return out
}

// made is an empty table; it fails, if there is none.
func made(t *testing.T, cells int) *resv.Table {
	t.Helper()
	x, e := resv.New(cells)
	if x == nil || e != api.OK {
		t.Fatalf("New %d: %v, error %d", cells, x, e)
	}
	return x
}

// slot is a robot's, from a tick on, ahead of another.
func slot(robot, from, to int) api.Slot { return api.Slot{From: from, To: to, Robot: robot} }

// laid is a table whose cell has these slots, each claimed by itself.
func laid(t *testing.T, cells, cell int, l ...api.Slot) *resv.Table {
	t.Helper()
	x := made(t, cells)
	for _, s := range l {
		claims(t, x, s.Robot, api.OK, resv.Want{Cell: cell, From: s.From, To: s.To})
	}
	return x
}

// claims fails unless a claim answers just this.
func claims(t *testing.T, x *resv.Table, robot int, want api.Errno, l ...resv.Want) {
	t.Helper()
	if e := x.Claim(robot, l); e != want {
		t.Fatalf("Claim of %d, %v: error %d, want %d", robot, l, e, want)
	}
}

// extends fails unless Extend answers just this.
func extends(t *testing.T, x *resv.Table, robot, cell, at, by int, want api.Errno) {
	t.Helper()
	if e := x.Extend(robot, cell, at, by); e != want {
		t.Fatalf("Extend of %d at %d, %d by %d: error %d, want %d", robot, cell, at, by, e, want)
	}
}

// has fails unless a cell has just these slots.
func has(t *testing.T, x *resv.Table, cell int, l ...api.Slot) {
	t.Helper()
	if got := x.Slots(cell); !slices.Equal(got, l) {
		t.Fatalf("Slots of %d: %v, want %v", cell, got, l)
	}
	robot, ok := x.First(cell)
	if len(l) == 0 && (robot != 0 || ok) || len(l) > 0 && (robot != l[0].Robot || !ok) {
		t.Fatalf("First of %d: %d, %v with %v", cell, robot, ok, l)
	}
}

// stretch is what Gaps tells at once.
type stretch struct{ from, to int }

// gaps is a cell's stretches, broken off behind most of them.
func gaps(x *resv.Table, cell, robot, most int) []stretch {
	var out []stretch
	for from, to := range x.Gaps(cell, robot) {
		out = append(out, stretch{from, to})
		if len(out) >= most {
			break
		}
	}
	return out
}

// model is who has each cell's units, by the chapter's words: a unit is the ticks from one edge on, ahead of the next; all that is asked of it lies on edges.
type model struct {
	edges []int
	owner [][]int
}

// modelOf is one in which nobody has anything; the edges rise from 0 to Forever.
func modelOf(cells int, edges []int) *model {
	m := &model{edges: edges, owner: make([][]int, cells)}
	for i := range m.owner {
		m.owner[i] = slices.Repeat([]int{nobody}, len(edges)-1)
	}
	return m
}

// someEdges has single ticks at both ends of time, and one long stretch between.
func someEdges() []int {
	return []int{0, 1, 2, 3, 4, 5, 6, 7, 100, 1 << 40, end - 4, end - 3, end - 2, end - 1, end}
}

func (m *model) there(cell int) bool { return cell >= 0 && cell < len(m.owner) }

// within tells whether a unit's ticks are all from a tick on, ahead of another.
func (m *model) within(unit, from, to int) bool {
	return from <= m.edges[unit] && m.edges[unit+1] <= to
}

func (m *model) claim(robot int, l []resv.Want) api.Errno {
	if robot < 0 {
		return api.ErrArg
	}
	for _, w := range l {
		if !m.there(w.Cell) || !(0 <= w.From && w.From < w.To && w.To <= end) {
			return api.ErrArg
		}
	}
	for _, w := range l {
		for unit, of := range m.owner[w.Cell] {
			if m.within(unit, w.From, w.To) && of != nobody && of != robot {
				return api.ErrTaken
			}
		}
	}
	for _, w := range l {
		m.give(robot, w.Cell, w.From, w.To)
	}
	return api.OK
}

// give makes units a robot's, whoever had them.
func (m *model) give(robot, cell, from, to int) {
	for unit := range m.owner[cell] {
		if m.within(unit, from, to) {
			m.owner[cell][unit] = robot
		}
	}
}

// runs is a cell's longest rows of units that are alike by what kind tells of their owners; -2: none of them.
func (m *model) runs(cell int, kind func(of int) int) []api.Slot {
	var out []api.Slot
	last := -2
	for unit, of := range m.owner[cell] {
		k := kind(of)
		if k != -2 && k == last {
			out[len(out)-1].To = m.edges[unit+1]
		} else if k != -2 {
			out = append(out, slot(k, m.edges[unit], m.edges[unit+1]))
		}
		last = k
	}
	return out
}

func (m *model) slots(cell int) []api.Slot {
	if !m.there(cell) {
		return nil
	}
	return m.runs(cell, func(of int) int {
		if of == nobody {
			return -2
		}
		return of
	})
}

func (m *model) gaps(cell, robot int) []stretch {
	if !m.there(cell) {
		return nil
	}
	var out []stretch
	for _, s := range m.runs(cell, func(of int) int {
		if of != nobody && of != robot {
			return -2
		}
		return 0
	}) {
		out = append(out, stretch{s.From, s.To})
	}
	return out
}

func (m *model) extend(robot, cell, at, by int) api.Errno {
	for _, s := range m.slots(cell) {
		if s.Robot != robot || at < s.From || at >= s.To {
			continue
		}
		to := end
		if by <= 0 {
			to = s.To
		} else if by < end-s.To {
			to = s.To + by
		}
		for unit, of := range m.owner[cell] {
			if m.within(unit, s.From, to) && of != nobody && of != robot {
				return api.ErrTaken
			}
		}
		m.give(robot, cell, s.From, to)
		return api.OK
	}
	return api.ErrNone
}

// take makes units ahead of upto nobody's, those of one robot or, without one, all.
func (m *model) take(upto int, robots ...int) {
	for _, owner := range m.owner {
		for unit, of := range owner {
			if m.edges[unit] < upto && (len(robots) == 0 || slices.Contains(robots, of)) {
				owner[unit] = nobody
			}
		}
	}
}

// same fails unless the table tells all that the model does, of all cells and of such as there are not.
func same(t *testing.T, x *resv.Table, m *model, robots ...int) {
	t.Helper()
	if x.Cells() != len(m.owner) {
		t.Fatalf("Cells: %d, want %d", x.Cells(), len(m.owner))
	}
	for cell := -2; cell < len(m.owner)+2; cell++ {
		has(t, x, cell, m.slots(cell)...)
		for _, r := range robots {
			if got, want := gaps(x, cell, r, 999), m.gaps(cell, r); !slices.Equal(got, want) {
				t.Fatalf("Gaps of %d for %d: %v, want %v, slots %v", cell, r, got, want, m.slots(cell))
			}
		}
	}
}

// sound fails unless a table's slots are such as may be: rising, with ticks from 0 to Forever, no two with a tick in common, no two of one robot that touch.
func sound(t *testing.T, x *resv.Table) {
	t.Helper()
	for cell := range x.Cells() {
		l := x.Slots(cell)
		for i, s := range l {
			if s.From < 0 || s.From >= s.To || s.To > end || s.Robot < 0 {
				t.Fatalf("Slots of %d: %v", cell, l)
			}
			if i > 0 && (l[i-1].To > s.From || l[i-1].To == s.From && l[i-1].Robot == s.Robot) {
				t.Fatalf("Slots of %d: %v", cell, l)
			}
		}
	}
}
