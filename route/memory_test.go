package route_test

import (
	"slices"
	"testing"

	"skep/api"
	"skep/resv"
	"skep/route"
)

// slots is all that a table has.
func slots(r *resv.Table) [][]api.Slot {
	var out [][]api.Slot
	for number := range r.Cells() {
		out = append(out, r.Slots(number))
	}
	return out
}

// R3: what is handed in stays: the config's lists with their spare room, and the table, whatever the answer is.
func TestHandedInStays(t *testing.T) {
	var luck chance = 59
	count := map[api.Errno]int{}
	for range 500 {
		q := drawQuestion(&luck, 4)
		q.c.Budget = 1 + luck.below(30)
		if luck.below(9) == 0 {
			q.from.At.X = -1
		}
		q.c.Blocked = append(make([]api.Cell, 0, 9), q.c.Blocked...)
		q.c.Ports = make([]api.Cell, 0, 3)
		q.c.Robots = make([]api.Pose, 0, 3)
		blocked, table := slices.Clone(q.c.Blocked[:9]), slots(q.r)
		moves, e := q.find()
		count[e]++
		if !slices.Equal(q.c.Blocked[:9], blocked) || slices.ContainsFunc(q.c.Ports[:3], func(c api.Cell) bool { return c != cell(0, 0) }) || slices.ContainsFunc(q.c.Robots[:3], func(p api.Pose) bool { return p != flat(0, 0) }) {
			t.Fatal("the config's lists were turned")
		}
		if !slices.EqualFunc(slots(q.r), table, slices.Equal) {
			t.Fatal("the table was turned")
		}
		// R4: asked once more, it is the same.
		answers(t, q, moves, e)
	}
	if len(count) != 5 {
		t.Errorf("%v", count)
	}
}

// R3: moves are memory of their own: to write over them, spare room too, turns no other answer.
func TestMovesAreNewMemory(t *testing.T) {
	q := question{c: plainConf(4, 4), r: tableOf(t, 16, hold{1, 2, 3, 9}), from: flat(0, 0), goal: to(down(3, 2))}
	a, e := q.find()
	if e != api.OK || len(a) < 2 {
		t.Fatal(a, e)
	}
	kept := slices.Clone(a)
	b, _ := q.find()
	for i := range b[:cap(b)] {
		b[:cap(b)][i] = api.Move{Kind: 99}
	}
	if !slices.Equal(a, kept) {
		t.Error(a)
	}
	answers(t, q, kept, api.OK)
}

// R4: what is asked between two calls, of other hives and of tables that are turned, does not matter.
func TestCallsHaveNothingInCommon(t *testing.T) {
	var luck chance = 61
	type answer struct {
		q     question
		moves []api.Move
		e     api.Errno
	}
	var l []answer
	for range 100 {
		q := drawQuestion(&luck, 4)
		moves, e := q.find()
		l = append(l, answer{q, moves, e})
	}
	for _, a := range slices.Backward(l) {
		answers(t, a.q, a.moves, a.e)
	}
}

// R1: any numbers are taken, or refused, and none panics.
func TestAnyNumbers(t *testing.T) {
	numbers := append(ends(), -1, 0, 1, 2, 3, end-1)
	var luck chance = 67
	draw := func() int { return numbers[luck.below(len(numbers))] }
	pose := func() api.Pose { return api.Pose{At: cell(draw(), draw()), Down: luck.below(2) == 0} }
	c, r := plainConf(4, 4), tableOf(t, 16, hold{1, 5, 0, 9}, hold{2, 6, end - 9, end})
	g, k := gridOf(t, c), kinOf(t, c)
	for range 20000 {
		q := question{c: c, r: r, robot: draw(), from: pose(), at: draw(), goal: route.Goal{Pose: pose(), Any: luck.below(2) == 0}}
		if luck.below(3) == 0 {
			q.robot, q.from, q.at = 0, flat(0, 0), 0
		}
		if luck.below(3) == 0 {
			q.goal.Pose = down(2, 2)
		}
		if moves, e := q.find(); e != api.OK && len(moves) != 0 {
			t.Fatal(moves, e)
		} else if e == api.OK {
			sound(t, q, moves)
		}
		told(g, r, draw(), []api.Cell{cell(draw(), draw()), cell(draw(), draw())}, 9)
		route.Lasts(c, k, api.Move{Kind: draw(), Dir: draw(), N: draw(), From: pose(), To: pose(), At: draw(), End: draw()})
	}
}

// R1: the greatest hive, with very many slots on each cell, is searched to its end.
func TestGreatest(t *testing.T) {
	c := plainConf(16, 16)
	c.Unit, c.Accel, c.Speed, c.Turn, c.Budget = 1000, 100, 1000, 20, api.MaxBudget
	r, _ := resv.New(256)
	var luck chance = 71
	for number := range 256 {
		for i := range 60 {
			at := 400*i + luck.below(390)
			if e := r.Claim(1+luck.below(7), []resv.Want{{Cell: number, From: at, To: at + 1 + luck.below(9)}}); e != api.OK {
				t.Fatal(e)
			}
		}
	}
	q := question{c: c, r: r, from: flat(0, 0), goal: to(down(15, 14))}
	moves, e := q.find()
	if e != api.OK || len(moves) == 0 || moves[len(moves)-1].End < 20000 {
		t.Fatal(moves, e)
	}
	sound(t, q, moves)
	// No goal, but for a while: each state that can be reached is taken.
	if e := r.Claim(1, []resv.Want{{Cell: 255, From: 30000, To: end}}); e != api.OK {
		t.Fatal(e)
	}
	answers(t, q, nil, api.ErrRoute)
}
