package state_test

import (
	"slices"
	"testing"

	"skep/api"
	"skep/grid"
	"skep/plan"
	"skep/state"
)

// corridor is a config of two robots, of which each can come in the other's way:
//
//	h h . .
//	. . . .
//	. . h h
func corridor() api.Conf {
	c := bare(4, 3, 1, 1)
	c.Robots = []api.Pose{flat(0, 0), flat(2, 2)}
	return c
}

// tableIs fails unless Table tells just these slots, by cells' numbers, and none on other cells.
func tableIs(t *testing.T, c api.Conf, s api.State, want map[int][]api.Slot) {
	t.Helper()
	r, e := state.Table(c, s)
	if e != api.OK || r.Cells() != c.W*c.H {
		t.Fatal(e)
	}
	for cell := range r.Cells() {
		if got := r.Slots(cell); !slices.Equal(got, want[cell]) {
			t.Errorf("cell %d: %v, want %v", cell, got, want[cell])
		}
	}
}

// run is a run at a tick, as long as it lasts.
func run(c api.Conf, from api.Pose, dir, n, at int) api.Move {
	g, _ := grid.New(c)
	to, _ := g.Shift(from, dir, n)
	m := api.Move{Kind: api.Run, Dir: dir, N: n, From: from, To: to, At: at}
	m.End = at + lasts(c, m)
	return m
}

// P16.3: Table: robots that stand have their cells for all time, others what they hold, waits too; those of nobody are free.
func TestTable(t *testing.T) {
	c := corridor()
	s := plainFirst(c)
	always := func(robot int) []api.Slot { return []api.Slot{{From: 0, To: api.Forever, Robot: robot}} }
	tableIs(t, c, s, map[int][]api.Slot{0: always(0), 1: always(0), 10: always(1), 11: always(1)})
	// To the east at 50, behind robot 1, that goes to the north and back.
	out := run(c, flat(2, 2), api.North, 2, 3)
	back := run(c, flat(2, 0), api.South, 2, out.End+4)
	east := run(c, flat(0, 0), api.East, 1, 50)
	s.Robots[0].Moves, s.Robots[1].Moves = []api.Move{east}, []api.Move{out, back}
	if back.End > 50 {
		t.Fatal(back)
	}
	tableIs(t, c, s, map[int][]api.Slot{
		0:  {{From: 0, To: east.End, Robot: 0}},
		1:  {{From: 0, To: api.Forever, Robot: 0}},
		2:  {{From: 3, To: back.End, Robot: 1}, {From: 50, To: api.Forever, Robot: 0}},
		3:  {{From: 3, To: back.End, Robot: 1}},
		6:  {{From: 3, To: out.End, Robot: 1}, {From: out.End + 4, To: back.End, Robot: 1}},
		7:  {{From: 3, To: out.End, Robot: 1}, {From: out.End + 4, To: back.End, Robot: 1}},
		10: {{From: 0, To: out.End, Robot: 1}, {From: out.End + 4, To: api.Forever, Robot: 1}},
		11: {{From: 0, To: out.End, Robot: 1}, {From: out.End + 4, To: api.Forever, Robot: 1}},
	})
	c.Robots = nil
	tableIs(t, c, plainFirst(c), nil)
}

// P16.3: of each state each robot's holds, just as plan tells them, all of them and no more.
func TestTableIsHolds(t *testing.T) {
	c := three()
	g, _ := grid.New(c)
	for _, s := range []api.State{plainFirst(c), busy(t), held(t)} {
		want, _ := plainTable(c, s, -1)
		got, e := state.Table(c, s)
		if e != api.OK {
			t.Fatal(e)
		}
		for cell := range c.W * c.H {
			if !slices.Equal(got.Slots(cell), want.Slots(cell)) {
				t.Errorf("cell %d: %v, want %v", cell, got.Slots(cell), want.Slots(cell))
			}
		}
		for i, r := range s.Robots {
			if e := got.Claim(i, plan.Holds(g, r.At, r.Moves)); e != api.OK {
				t.Error(e)
			}
		}
		// The table is the caller's own.
		got.Expire(api.Forever)
		if again, _ := state.Table(c, s); len(again.Slots(g.Number(s.Robots[0].At.At))) == 0 {
			t.Error("two tables have something in common")
		}
	}
}

// turnIs fails unless Turn says just this.
func turnIs(t *testing.T, c api.Conf, s api.State, robot int, want bool) {
	t.Helper()
	if got := state.Turn(c, s, robot); got != want || plainTurn(c, s, robot) != want {
		t.Errorf("Turn of %d: %v", robot, got)
	}
}

// P16.3: Turn: no such robot, no moves, first slots of its own on all cells, on some, on none but where it stands.
func TestTurn(t *testing.T) {
	c := corridor()
	s := plainFirst(c)
	for _, robot := range append(ends(), -2, -1, 0, 1, 2, 3) {
		turnIs(t, c, s, robot, false)
	}
	out := run(c, flat(2, 2), api.North, 2, 3)
	back := run(c, flat(2, 0), api.South, 2, out.End+4)
	s.Robots[1].Moves = []api.Move{out, back}
	turnIs(t, c, s, 1, true)
	turnIs(t, c, s, 0, false)
	turnIs(t, c, s, 2, false)
	turnIs(t, c, s, -1, false)
	// Robot 0 sweeps one cell that robot 1 has first, at two others it is first itself.
	s.Robots[0].Moves = []api.Move{run(c, flat(0, 0), api.East, 1, 50)}
	turnIs(t, c, s, 0, false)
	turnIs(t, c, s, 1, true)
	// It stands by at first: its first move is on cells of its own, only a later one is not.
	turn := api.Move{Kind: api.Lift, From: flat(0, 0), To: flat(0, 0), At: 0, End: c.Hoist}
	s.Robots[0].Moves = []api.Move{turn, run(c, flat(0, 0), api.East, 1, 50)}
	turnIs(t, c, s, 0, true)
	turnIs(t, c, s, 1, true)
	// Who is ahead counts, not who is Out, nor when it is now.
	s.Robots[1].Out = true
	turnIs(t, c, s, 0, true)
	turnIs(t, c, s, 1, true)
	s.Robots[1].Moves[0].At += 1000
	s.Robots[1].Moves[0].End += 1000
	s.Robots[1].Moves = s.Robots[1].Moves[:1]
	s.Robots[0].Moves = []api.Move{run(c, flat(0, 0), api.East, 2, 50), run(c, flat(2, 0), api.West, 2, 100)}
	turnIs(t, c, s, 0, true)
	turnIs(t, c, s, 1, false)
}

// P16.3: Turn along a robot's round, while the other one stands, waits, and comes behind it.
func TestTurnOneBehindTheOther(t *testing.T) {
	c := corridor()
	s := plainFirst(c)
	s = goes(t, c, s, evPlan(0, 0, []api.Move{run(c, flat(0, 0), api.East, 2, 0), run(c, flat(2, 0), api.West, 2, 40)}))
	out := run(c, flat(2, 2), api.North, 2, 90)
	s = goes(t, c, s, evPlan(1, 0, []api.Move{out, run(c, flat(2, 0), api.South, 2, 120)}))
	turnIs(t, c, s, 0, true)
	turnIs(t, c, s, 1, false)
	refuses(t, c, s, evGo(1), api.ErrState)
	s = goes(t, c, s, evGo(0))
	turnIs(t, c, s, 0, true)
	turnIs(t, c, s, 1, false)
	s = goes(t, c, s, evDone(0))
	turnIs(t, c, s, 0, true)
	turnIs(t, c, s, 1, false)
	s = goes(t, c, s, evGo(0))
	turnIs(t, c, s, 1, false)
	s = goes(t, c, s, evDone(0))
	turnIs(t, c, s, 0, false)
	turnIs(t, c, s, 1, true)
	s = goes(t, c, s, evGo(1), evDone(1), evGo(1), evDone(1))
	same(t, s, api.State{Seq: 10, Stacks: s.Stacks, Robots: []api.Robot{{At: flat(0, 0), Num: 2}, {At: flat(2, 2), Num: 2}}, NextOrder: 1, NextJob: 1})
}
