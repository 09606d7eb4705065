package state_test

import (
	"testing"

	"skep/api"
)

// begun is a hive with an order for bin 8, whose two jobs nobody does yet, and one for bin 3.
func begun(t *testing.T) api.State {
	t.Helper()
	return goes(t, three(), plainFirst(three()), evOrder(8, 0), evBegin(1), evOrder(3, 2), evBegin(2))
}

// P16.4: EvPlan with a job, without one, with the job that it has, with a load.
func TestPlan(t *testing.T) {
	c, s := three(), begun(t)
	way := roundFor(c, s, 0, 0, s.Jobs[0])
	n := turns(t, c, s, evPlan(0, 1, way), func(n *api.State) {
		n.Jobs[0].Robot, n.Robots[0].Job, n.Robots[0].Moves = 0, 1, way
	})
	other := roundFor(c, n, 1, 0, n.Jobs[2])
	turns(t, c, n, evPlan(1, 3, other), func(n *api.State) {
		n.Jobs[2].Robot, n.Robots[1].Job, n.Robots[1].Moves = 1, 3, other
	})
	// Without a job: any moves without lifts and drops.
	some := []api.Move{run(c, flat(0, 2), api.North, 1, 5)}
	turns(t, c, s, evPlan(0, 0, some), func(n *api.State) { n.Robots[0].Moves = some })
	// Stopped and resumed it has its job still, and no moves; then with its load.
	for _, kind := range []int{api.Lift, api.Drop} {
		n := until(t, c, takes(t, c, s, evPlan(0, 1, way)), 0, kind)
		n = goes(t, c, n, evStop(), evHalt(0, n.Robots[0].Load, n.Robots[0].At), evHalt(1, 0, n.Robots[1].At), evResume())
		again := roundFor(c, n, 0, 9, n.Jobs[0])
		turns(t, c, n, evPlan(0, 0, again), func(n *api.State) { n.Robots[0].Moves = again })
		refuses(t, c, n, evPlan(0, 1, again), api.ErrState)
		refuses(t, c, n, evPlan(0, 3, again), api.ErrState)
	}
}

// P16.4: EvPlan's errors: held, ahead of all else of its own; moves that it has; jobs that it may not take.
func TestPlanRefused(t *testing.T) {
	c, s := three(), begun(t)
	way := roundFor(c, s, 0, 0, s.Jobs[0])
	for _, e := range []api.Event{evPlan(0, 1, way), evPlan(0, 0, nil), evPlan(0, 99, way)} {
		refuses(t, c, takes(t, c, s, evStop()), e, api.ErrHeld)
	}
	has := takes(t, c, s, evPlan(0, 1, way))
	refuses(t, c, has, evPlan(0, 0, way), api.ErrState)
	refuses(t, c, has, evPlan(0, 1, way), api.ErrState)
	refuses(t, c, takes(t, c, has, evGo(0)), evPlan(0, 0, way), api.ErrState)
	// Robot 1 may not take robot 0's job, nor the Fetch behind it, that works at its cell.
	for _, job := range append(ends(), -1, 1, 2, 4) {
		j, _ := jobOf(has, job)
		refuses(t, c, has, evPlan(1, job, roundFor(c, has, 1, 0, j)), api.ErrState)
	}
	refuses(t, c, s, evPlan(0, 2, roundFor(c, s, 0, 0, s.Jobs[1])), api.ErrState)
	takes(t, c, s, evPlan(0, 3, roundFor(c, s, 0, 0, s.Jobs[2])))
}

// P16.4: EvPlan's moves: none, too many, not right.
func TestPlanMoves(t *testing.T) {
	c, s := three(), begun(t)
	way := roundFor(c, s, 0, 0, s.Jobs[0])
	refuses(t, c, s, evPlan(0, 1, nil), api.ErrState)
	refuses(t, c, s, evPlan(0, 0, nil), api.ErrState)
	refuses(t, c, s, evPlan(0, 0, []api.Move{}), api.ErrState)
	wrong := func(turn func(l []api.Move) []api.Move) {
		t.Helper()
		refuses(t, c, s, evPlan(0, 1, turn(append([]api.Move(nil), way...))), api.ErrState)
	}
	wrong(func(l []api.Move) []api.Move { return l[1:] })
	wrong(func(l []api.Move) []api.Move { l[0].End++; return l })
	wrong(func(l []api.Move) []api.Move { l[len(l)-1].End--; return l })
	wrong(func(l []api.Move) []api.Move { l[0].At = -1; return l })
	wrong(func(l []api.Move) []api.Move { l[0].N++; return l })
	wrong(func(l []api.Move) []api.Move { l[len(l)-1].Kind = 9; return l })
	wrong(func(l []api.Move) []api.Move { l[0], l[1] = l[1], l[0]; return l })
	// As many moves as may be, one more.
	to, fro := run(c, flat(0, 2), api.North, 1, 0), run(c, flat(0, 1), api.South, 1, 0)
	var many []api.Move
	for i := range api.MaxMoves + 1 {
		m := []api.Move{to, fro}[i%2]
		m.At, m.End = to.End*i, to.End*i+to.End
		many = append(many, m)
	}
	takes(t, c, s, evPlan(0, 0, many[:api.MaxMoves]))
	refuses(t, c, s, evPlan(0, 0, many), api.ErrState)
}

// P16.4: EvPlan's lifts and drops are just those that are due, in order, where they are due.
func TestPlanStops(t *testing.T) {
	c, s := three(), begun(t)
	from, to := s.Jobs[0].From, s.Jobs[0].To
	takes(t, c, s, evPlan(0, 1, roundOf(c, s, 0, 0, lifts(from), drops(to))))
	for _, l := range [][]api.Move{
		roundOf(c, s, 0, 0, lifts(from)),
		roundOf(c, s, 0, 0, drops(to)),
		roundOf(c, s, 0, 0, drops(to), lifts(from)),
		roundOf(c, s, 0, 0, lifts(to), drops(from)),
		roundOf(c, s, 0, 0, lifts(from), lifts(to)),
		roundOf(c, s, 0, 0, drops(from), drops(to)),
		roundOf(c, s, 0, 0, lifts(from), drops(at(2, 2))),
		roundOf(c, s, 0, 0, lifts(at(1, 1)), drops(to)),
		roundOf(c, s, 0, 0, lifts(from), drops(to), drops(to)),
		roundOf(c, s, 0, 0, lifts(from), lifts(from), drops(to)),
		roundOf(c, s, 0, 0, lifts(from), drops(to), lifts(at(2, 2))),
		{run(c, flat(0, 2), api.North, 1, 0)},
	} {
		if len(l) == 0 {
			t.Fatal("no round")
		}
		refuses(t, c, s, evPlan(0, 1, l), api.ErrState)
	}
	// Without a job none are due.
	for _, l := range [][]api.Move{
		roundOf(c, s, 0, 0, lifts(from), drops(to)),
		roundOf(c, s, 0, 0, lifts(from)),
		roundOf(c, s, 0, 0, drops(to)),
	} {
		refuses(t, c, s, evPlan(0, 0, l), api.ErrState)
	}
	// With a load the drop alone.
	n := until(t, c, takes(t, c, s, evPlan(0, 1, roundFor(c, s, 0, 0, s.Jobs[0]))), 0, api.Drop)
	n = goes(t, c, n, evStop(), evHalt(0, 9, n.Robots[0].At), evHalt(1, 0, n.Robots[1].At), evResume())
	takes(t, c, n, evPlan(0, 0, roundOf(c, n, 0, 0, drops(to))))
	for _, l := range [][]api.Move{
		roundOf(c, n, 0, 0, lifts(from), drops(to)),
		roundOf(c, n, 0, 0, drops(from)),
		roundOf(c, n, 0, 0, lifts(to)),
		roundOf(c, n, 0, 0),
	} {
		if len(l) == 0 {
			t.Fatal("no round")
		}
		refuses(t, c, n, evPlan(0, 0, l), api.ErrState)
	}
	// At: the pose's first cell; the second does not do.
	beside := but(s, func(s *api.State) { s.Robots[0].At = flat(1, 1) })
	l := append([]api.Move{
		run(c, flat(0, 2), api.North, 1, 0),
		run(c, flat(0, 1), api.East, 1, 40),
		{Kind: api.Lift, From: flat(1, 1), To: flat(1, 1), At: 80, End: 80 + c.Hoist},
	}, roundOf(c, beside, 0, 200, drops(to))...)
	refuses(t, c, s, evPlan(0, 1, l), api.ErrState)
	takes(t, c, but(s, func(s *api.State) { s.Jobs[0].From = at(1, 1) }), evPlan(0, 1, l))
}

// P16.4: EvPlan's holds: beside the others', and ahead of nobody who is Out.
func TestPlanHolds(t *testing.T) {
	c := corridor()
	s := plainFirst(c)
	east := func(at int) []api.Move { return []api.Move{run(c, flat(0, 0), api.East, 2, at)} }
	out := run(c, flat(2, 2), api.North, 2, 100)
	back := run(c, flat(2, 0), api.South, 2, out.End)
	s = goes(t, c, s, evPlan(1, 0, []api.Move{out, back}))
	long := east(0)[0].End
	round := func(at int) []api.Move {
		return append(east(at), run(c, flat(2, 0), api.West, 2, at+long))
	}
	// Ahead of robot 1, to the tick; behind it; and too late or too early by one.
	takes(t, c, s, evPlan(0, 0, round(100-2*long)))
	refuses(t, c, s, evPlan(0, 0, round(101-2*long)), api.ErrState)
	refuses(t, c, s, evPlan(0, 0, east(back.End-1)), api.ErrState)
	takes(t, c, s, evPlan(0, 0, east(back.End)))
	// Ahead of it, but it would stand there for ever.
	refuses(t, c, s, evPlan(0, 0, east(0)), api.ErrState)
	// Robot 1 is Out: nobody comes ahead of it on the cells that it sweeps.
	s = goes(t, c, s, evGo(1))
	refuses(t, c, s, evPlan(0, 0, round(100-2*long)), api.ErrState)
	refuses(t, c, s, evPlan(0, 0, round(0)), api.ErrState)
	takes(t, c, s, evPlan(0, 0, east(back.End)))
	short := []api.Move{run(c, flat(0, 0), api.South, 1, 0)}
	takes(t, c, s, evPlan(0, 0, short))
	// What it has left behind it may be had at once.
	s = goes(t, c, s, evDone(1))
	takes(t, c, s, evPlan(0, 0, []api.Move{run(c, flat(0, 0), api.South, 1, 0), run(c, flat(0, 1), api.South, 1, 50)}))
}
