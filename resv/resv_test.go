package resv_test

import (
	"math"
	"slices"
	"testing"

	"skep/api"
	"skep/resv"
)

// want is ticks of a cell.
func want(cell, from, to int) resv.Want { return resv.Want{Cell: cell, From: from, To: to} }

// The chapter's examples.
func TestExamples(t *testing.T) {
	x := made(t, 5)
	claims(t, x, 0, api.OK, want(3, 5, 9))
	if got := gaps(x, 3, 1, 99); !slices.Equal(got, []stretch{{0, 5}, {9, end}}) {
		t.Error(got)
	}
	if got := gaps(x, 3, 0, 99); !slices.Equal(got, []stretch{{0, end}}) {
		t.Error(got)
	}
	claims(t, x, 1, api.ErrTaken, want(3, 8, 10))
	has(t, x, 3, slot(0, 5, 9))
}

// P11.1: a table of 1 to 256 cells is empty, and has all its cells; of other numbers there is none.
func TestNew(t *testing.T) {
	for _, n := range []int{1, 2, 7, 255, 256} {
		x, m := made(t, n), modelOf(n, someEdges())
		same(t, x, m, -1, 0, 1)
		for cell := range n {
			claims(t, x, cell, api.OK, want(cell, 1, 2))
			m.give(cell, cell, 1, 2)
		}
		claims(t, x, 0, api.ErrArg, want(n, 1, 2))
		same(t, x, m, -1, 0, 1)
	}
	for _, n := range append(ends(), 0, -1, -2, -255, 257, 258, 1000) {
		if x, e := resv.New(n); n != 256 && (x != nil || e != api.ErrArg) {
			t.Errorf("New %d: %v, error %d", n, x, e)
		}
	}
}

// P11.1: slots of several robots, claimed in any order, rise; those that touch stay two if they are two robots'.
func TestSlots(t *testing.T) {
	x := laid(t, 4, 2, slot(1, 20, 30), slot(0, 5, 9), slot(2, 30, 31), slot(1, 9, 10), slot(0, 0, 2), slot(1, end-1, end))
	all := []api.Slot{slot(0, 0, 2), slot(0, 5, 9), slot(1, 9, 10), slot(1, 20, 30), slot(2, 30, 31), slot(1, end-1, end)}
	has(t, x, 2, all...)
	claims(t, x, 7, api.OK, want(0, 4, 6))
	has(t, x, 0, slot(7, 4, 6))
	has(t, x, 2, all...)
	for _, cell := range append(ends(), -4, -3, -2, -1, 1, 3, 4, 5) {
		has(t, x, cell)
	}
}

// P11.1: First is the slot that comes first, whoever claimed first; robot 0's is told with true.
func TestFirst(t *testing.T) {
	x := laid(t, 2, 1, slot(5, 10, 11))
	has(t, x, 1, slot(5, 10, 11))
	claims(t, x, 0, api.OK, want(1, 9, 10))
	if r, ok := x.First(1); r != 0 || !ok {
		t.Error(r, ok)
	}
	claims(t, x, 9, api.OK, want(1, 11, 12))
	if r, ok := x.First(1); r != 0 || !ok {
		t.Error(r, ok)
	}
	x.Clear(0)
	if r, ok := x.First(1); r != 5 || !ok {
		t.Error(r, ok)
	}
	x.Expire(end)
	if r, ok := x.First(1); r != 0 || ok {
		t.Error(r, ok)
	}
}

// P11.2: a claim of no wants is taken, and changes nothing; not of a robot below 0.
func TestClaimOfNone(t *testing.T) {
	x := laid(t, 2, 0, slot(0, 1, 2), slot(1, 2, 3))
	for _, l := range [][]resv.Want{nil, {}, make([]resv.Want, 0, 4)} {
		for _, r := range []int{0, 1, 2, math.MaxInt} {
			claims(t, x, r, api.OK, l...)
		}
		for _, r := range []int{-1, -2, math.MinInt} {
			claims(t, x, r, api.ErrArg, l...)
		}
		has(t, x, 0, slot(0, 1, 2), slot(1, 2, 3))
		has(t, x, 1)
	}
}

// wrongWants is those that may not be in a table of so many cells.
func wrongWants(cells int) []resv.Want {
	var out []resv.Want
	for _, cell := range append(ends(), -2, -1, cells, cells+1) {
		if cell < 0 || cell >= cells {
			out = append(out, want(cell, 5, 6))
		}
	}
	for _, v := range append(ends(), -2, -1) {
		if v < 0 {
			out = append(out, want(0, v, 6), want(0, v, v+1), want(0, v, 0), want(0, 3, v))
		}
		if v > end {
			out = append(out, want(0, 3, v), want(0, 0, v), want(0, end, v), want(0, v, 6), want(0, v-1, v))
		}
	}
	for _, v := range []int{0, 1, 5, 10, 11, end - 1, end} {
		out = append(out, want(0, v, v), want(0, v, v-1), want(0, end, v))
	}
	return out
}

// P11.2: each thing that may not be is ErrArg, by itself and among others, at whichever place, and ahead of ErrTaken; nothing is done.
func TestClaimWrong(t *testing.T) {
	others := []api.Slot{slot(1, 5, 6), slot(1, 10, 11)}
	x := laid(t, 3, 0, others...)
	right, taken := want(1, 20, 30), want(0, 4, 7)
	for _, w := range wrongWants(3) {
		for _, l := range [][]resv.Want{{w}, {w, right}, {right, w}, {right, w, right}, {taken, w}, {w, taken}, {taken, right, w}} {
			claims(t, x, 0, api.ErrArg, l...)
		}
	}
	for _, robot := range []int{-1, -2, math.MinInt} {
		claims(t, x, robot, api.ErrArg, right)
		claims(t, x, robot, api.ErrArg, taken)
		claims(t, x, robot, api.ErrArg, right, want(3, 1, 2))
	}
	has(t, x, 0, others...)
	has(t, x, 1)
	has(t, x, 2)
}

// P11.2: a want with one tick in common with another robot's slot is ErrTaken; where they only touch it is the robot's.
func TestClaimAtEdges(t *testing.T) {
	for from := range 30 {
		for to := from + 1; to <= 30; to++ {
			x := laid(t, 1, 0, slot(1, 10, 15), slot(2, 20, 21))
			e := x.Claim(0, []resv.Want{want(0, from, to)})
			taken := from < 15 && to > 10 || from < 21 && to > 20
			if taken && e != api.ErrTaken || !taken && e != api.OK {
				t.Fatalf("%d to %d: error %d", from, to, e)
			}
			l := []api.Slot{slot(1, 10, 15), slot(2, 20, 21)}
			if !taken {
				l = append(l, slot(0, from, to))
				slices.SortFunc(l, func(a, b api.Slot) int { return a.From - b.From })
			}
			has(t, x, 0, l...)
		}
	}
}

// P11.2: other robots' slots at ticks 0 and Forever, and wants there.
func TestClaimAtEndsOfTime(t *testing.T) {
	x := laid(t, 2, 0, slot(1, 0, 1), slot(2, end-1, end))
	claims(t, x, 0, api.ErrTaken, want(0, 0, 1))
	claims(t, x, 0, api.ErrTaken, want(0, 0, end))
	claims(t, x, 0, api.ErrTaken, want(0, 1, end))
	claims(t, x, 0, api.ErrTaken, want(0, 0, end-1))
	claims(t, x, 0, api.ErrTaken, want(0, end-1, end))
	claims(t, x, 0, api.OK, want(0, 1, end-1))
	has(t, x, 0, slot(1, 0, 1), slot(0, 1, end-1), slot(2, end-1, end))
	claims(t, x, 3, api.OK, want(1, 0, end))
	claims(t, x, 3, api.OK, want(1, 0, 1), want(1, end-1, end), want(1, 7, 9))
	claims(t, x, 4, api.ErrTaken, want(1, 0, 1))
	claims(t, x, 4, api.ErrTaken, want(1, end-1, end))
	claims(t, x, 4, api.ErrTaken, want(1, 1<<61, 1<<61+1))
	has(t, x, 1, slot(3, 0, end))
}

// P11.2: wants may overlap, touch, lie within each other and be alike, in any order, on one cell and on many.
func TestClaimOfMany(t *testing.T) {
	l := []resv.Want{want(1, 5, 9), want(1, 2, 6), want(0, 4, 5), want(1, 20, 21), want(1, 9, 12), want(1, 3, 4), want(1, 20, 21), want(2, 7, end), want(0, 0, 4), want(1, 40, 90), want(1, 45, 50), want(1, 60, 91)}
	var luck chance = 3
	for range 200 {
		x := made(t, 4)
		for i := range l {
			j := i + luck.below(len(l)-i)
			l[i], l[j] = l[j], l[i]
		}
		claims(t, x, 6, api.OK, l...)
		has(t, x, 0, slot(6, 0, 5))
		has(t, x, 1, slot(6, 2, 12), slot(6, 20, 21), slot(6, 40, 91))
		has(t, x, 2, slot(6, 7, end))
		has(t, x, 3)
	}
}

// P11.2: what a robot has already it may claim again; what lies between two of its own makes them one.
func TestClaimOfOwn(t *testing.T) {
	own := []api.Slot{slot(0, 2, 4), slot(1, 4, 5), slot(0, 6, 8), slot(0, 10, 12)}
	for _, c := range []struct {
		l    []resv.Want
		want []api.Slot
	}{
		{[]resv.Want{want(0, 6, 8)}, own},
		{[]resv.Want{want(0, 7, 8), want(0, 2, 3), want(0, 10, 11), want(0, 11, 12)}, own},
		{[]resv.Want{want(0, 8, 10)}, []api.Slot{slot(0, 2, 4), slot(1, 4, 5), slot(0, 6, 12)}},
		{[]resv.Want{want(0, 7, 11)}, []api.Slot{slot(0, 2, 4), slot(1, 4, 5), slot(0, 6, 12)}},
		{[]resv.Want{want(0, 8, 9)}, []api.Slot{slot(0, 2, 4), slot(1, 4, 5), slot(0, 6, 9), slot(0, 10, 12)}},
		{[]resv.Want{want(0, 9, 10)}, []api.Slot{slot(0, 2, 4), slot(1, 4, 5), slot(0, 6, 8), slot(0, 9, 12)}},
		{[]resv.Want{want(0, 9, 10), want(0, 8, 9)}, []api.Slot{slot(0, 2, 4), slot(1, 4, 5), slot(0, 6, 12)}},
		{[]resv.Want{want(0, 5, 20)}, []api.Slot{slot(0, 2, 4), slot(1, 4, 5), slot(0, 5, 20)}},
		{[]resv.Want{want(0, 0, 3), want(0, 12, end)}, []api.Slot{slot(0, 0, 4), slot(1, 4, 5), slot(0, 6, 8), slot(0, 10, end)}},
	} {
		x := laid(t, 1, 0, own...)
		claims(t, x, 0, api.OK, c.l...)
		has(t, x, 0, c.want...)
	}
}

// P11.2: a claim that is refused, for its first want, one between or its last, changes nothing on any cell.
func TestClaimRefused(t *testing.T) {
	right := []resv.Want{want(0, 0, 5), want(1, 3, 9), want(2, 12, end), want(1, 9, 10)}
	for place := range len(right) + 1 {
		for _, c := range []struct {
			w resv.Want
			e api.Errno
		}{{want(2, 11, 12), api.ErrTaken}, {want(2, 0, 11), api.ErrTaken}, {want(2, 9, 9), api.ErrArg}, {want(3, 1, 2), api.ErrArg}, {want(0, -1, 2), api.ErrArg}, {want(0, 1, end+1), api.ErrArg}} {
			x := laid(t, 3, 2, slot(1, 10, 12), slot(0, 13, 14))
			claims(t, x, 0, c.e, slices.Insert(slices.Clone(right), place, c.w)...)
			has(t, x, 0)
			has(t, x, 1)
			has(t, x, 2, slot(1, 10, 12), slot(0, 13, 14))
			claims(t, x, 0, api.OK, right...)
		}
	}
}

// P11.2, R5: a robot's number may be any from 0 on.
func TestRobotsOfAnyNumber(t *testing.T) {
	x := made(t, 1)
	for i, r := range []int{0, 8, 1 << 40, math.MaxInt - 1, math.MaxInt} {
		claims(t, x, r, api.OK, want(0, 10*i, 10*i+10))
		claims(t, x, 3, api.ErrTaken, want(0, 10*i, 10*i+1))
	}
	has(t, x, 0, slot(0, 0, 10), slot(8, 10, 20), slot(1<<40, 20, 30), slot(math.MaxInt-1, 30, 40), slot(math.MaxInt, 40, 50))
	extends(t, x, math.MaxInt, 0, 49, 5, api.OK)
	extends(t, x, math.MaxInt-1, 0, 39, 5, api.ErrTaken)
	x.Release(1<<40, 25)
	x.Clear(math.MaxInt - 1)
	has(t, x, 0, slot(0, 0, 10), slot(8, 10, 20), slot(1<<40, 25, 30), slot(math.MaxInt, 40, 55))
}
