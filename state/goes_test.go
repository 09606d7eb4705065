package state_test

import (
	"testing"

	"skep/api"
)

// P16.4: EvGo: it is Out, Num one more; its errors.
func TestGo(t *testing.T) {
	c, s := three(), begun(t)
	s = goes(t, c, s, evPlan(0, 1, roundFor(c, s, 0, 0, s.Jobs[0])))
	n := turns(t, c, s, evGo(0), func(n *api.State) { n.Robots[0].Out, n.Robots[0].Num = true, 1 })
	refuses(t, c, n, evGo(0), api.ErrState)
	refuses(t, c, n, evGo(1), api.ErrState)
	n = goes(t, c, n, evDone(0))
	n.Robots[0].Num = 41
	turns(t, c, n, evGo(0), func(n *api.State) { n.Robots[0].Out, n.Robots[0].Num = true, 42 })
	for _, s := range []api.State{s, n, plainFirst(c)} {
		s = goes(t, c, s, evStop())
		refuses(t, c, s, evGo(0), api.ErrHeld)
		refuses(t, c, s, evGo(1), api.ErrHeld)
	}
	// Num at 2^40 is told behind that it is Out, or that it is not its turn.
	full := but(s, func(s *api.State) { s.Robots[0].Num = most })
	refuses(t, c, full, evGo(0), api.ErrFull)
	refuses(t, c, but(full, func(s *api.State) { s.Robots[0].Out = true }), evGo(0), api.ErrState)
	refuses(t, c, but(full, func(s *api.State) { s.Robots[1].Num = most }), evGo(1), api.ErrState)
	if n := takes(t, c, but(s, func(s *api.State) { s.Robots[0].Num = most - 1 }), evGo(0)); n.Robots[0].Num != most {
		t.Error(n.Robots[0])
	}
}

// P16.4: EvDone of a run and of a turn: the pose, the moves that are left, not Out; its errors.
func TestDone(t *testing.T) {
	c := corridor()
	turn := api.Move{Kind: api.Turn, From: flat(1, 0), To: down(1, 0), At: 30, End: 30 + c.Turn}
	way := []api.Move{run(c, flat(0, 0), api.East, 1, 0), turn}
	s := goes(t, c, plainFirst(c), evPlan(0, 0, way))
	refuses(t, c, s, evDone(0), api.ErrState)
	refuses(t, c, s, evDone(1), api.ErrState)
	s = goes(t, c, s, evGo(0))
	refuses(t, c, s, evDone(1), api.ErrState)
	refuses(t, c, takes(t, c, s, evStop()), evDone(0), api.ErrHeld)
	refuses(t, c, takes(t, c, s, evStop()), evDone(1), api.ErrHeld)
	s = turns(t, c, s, evDone(0), func(n *api.State) {
		n.Robots[0] = api.Robot{At: flat(1, 0), Moves: way[1:], Num: 1}
	})
	refuses(t, c, s, evDone(0), api.ErrState)
	s = goes(t, c, s, evGo(0))
	turns(t, c, s, evDone(0), func(n *api.State) { n.Robots[0] = api.Robot{At: down(1, 0), Num: 2} })
}

// hoists is a hive in which robot 0 stands with its first cell at a cell, has a job and a load (0: none), and is Out to lift or drop.
func hoists(c api.Conf, kind int, cell api.Cell, j api.Job, load int) api.State {
	s := plainFirst(c)
	for i, l := range s.Stacks {
		if n := len(l.Bins); n > 0 && l.Bins[n-1] == load {
			s.Stacks[i].Bins = l.Bins[:n-1]
		}
	}
	p := api.Pose{At: cell}
	s.Robots[0] = api.Robot{At: p, Load: load, Job: 1, Out: true, Num: 3, Moves: []api.Move{{Kind: kind, From: p, To: p, At: 7, End: 7 + c.Hoist}, run(c, p, api.West, 1, 90)}}
	j.ID, j.Robot = 1, 0
	s.Jobs, s.NextJob = []api.Job{j, {ID: 2, Kind: api.Return, Bin: 7, From: at(0, 1), To: at(1, 1), Robot: -1}}, 3
	if j.Order != 0 {
		port := 0
		for p, cell := range c.Ports {
			if cell == j.To {
				port = p
			}
		}
		s.Orders, s.NextOrder = []api.Order{{ID: 1, Bin: 7, Port: 1, State: api.Delivered}, {ID: 2, Bin: j.Bin, Port: port, State: api.Active}, {ID: 3, Bin: 12, Port: port}}, 4
		s.Ports[port].Active, s.Ports[port].Queue = 2, []int{3}
	}
	return s
}

// mayBe fails unless a state that the test made may be.
func mayBe(t *testing.T, c api.Conf, s api.State) api.State {
	t.Helper()
	if !plainCheck(c, s) {
		t.Fatalf("no state of the config:\n%+v", s)
	}
	return s
}

// back is the job by which a bin is brought from a cell to a cell for nobody.
func back(bin int, from, to api.Cell) api.Job {
	return api.Job{Kind: api.Return, Bin: bin, From: from, To: to}
}

// P16.4: a Lift at a stack and at a port: the highest is the load, and there no more; the job goes on.
func TestLift(t *testing.T) {
	c := three()
	s := mayBe(t, c, hoists(c, api.Lift, at(2, 0), back(10, at(2, 0), at(1, 0)), 0))
	s.Stacks[0].Bins, s.Stacks[1].Bins = nil, []int{10}
	turns(t, c, mayBe(t, c, s), evDone(0), func(n *api.State) {
		n.Robots[0].Moves, n.Robots[0].Out, n.Robots[0].Load = n.Robots[0].Moves[1:], false, 10
		n.Stacks[1].Bins = nil
	})
	s = mayBe(t, c, hoists(c, api.Lift, at(1, 1), back(6, at(1, 1), at(1, 0)), 0))
	turns(t, c, s, evDone(0), func(n *api.State) {
		n.Robots[0].Moves, n.Robots[0].Out, n.Robots[0].Load = n.Robots[0].Moves[1:], false, 6
		n.Stacks[4].Bins = []int{4, 5}
	})
	s = hoists(c, api.Lift, at(3, 0), back(10, at(3, 0), at(1, 0)), 0)
	s.Stacks[0].Bins, s.Ports[0].Bin = nil, 10
	turns(t, c, mayBe(t, c, s), evDone(0), func(n *api.State) {
		n.Robots[0].Moves, n.Robots[0].Out, n.Robots[0].Load = n.Robots[0].Moves[1:], false, 10
		n.Ports[0].Bin = 0
	})
}

// P16.4: a Lift of a bin that does not stand highest there: below another, elsewhere, at no stack and no port; by a robot with no job; with its load already.
func TestLiftRefused(t *testing.T) {
	c := three()
	for _, x := range []struct {
		cell api.Cell
		bin  int
	}{{at(1, 1), 5}, {at(1, 1), 4}, {at(1, 1), 9}, {at(1, 1), 10}, {at(2, 0), 10}, {at(3, 0), 10}, {at(4, 2), 10}} {
		s := hoists(c, api.Lift, x.cell, back(x.bin, at(0, 1), at(1, 0)), 0)
		if x.cell == at(4, 2) {
			s.Robots[1].At = flat(1, 0)
		}
		refuses(t, c, mayBe(t, c, s), evDone(0), api.ErrState)
	}
	s := hoists(c, api.Lift, at(1, 1), back(6, at(1, 1), at(1, 0)), 0)
	s.Robots[0].Job, s.Jobs[0].Robot = 0, -1
	refuses(t, c, mayBe(t, c, s), evDone(0), api.ErrState)
	s = hoists(c, api.Lift, at(1, 1), back(6, at(1, 1), at(1, 0)), 6)
	refuses(t, c, mayBe(t, c, s), evDone(0), api.ErrState)
	// Another's bin at the port.
	s = hoists(c, api.Lift, at(3, 0), back(9, at(3, 0), at(1, 0)), 0)
	s.Stacks[0].Bins, s.Ports[0].Bin = nil, 10
	refuses(t, c, mayBe(t, c, s), evDone(0), api.ErrState)
}

// P16.4: a Drop at a stack and at a port: the load stands highest there, the job is gone, all else stays; of a Fetch the order is delivered, the port's Active none.
func TestDrop(t *testing.T) {
	c := three()
	for _, kind := range []int{api.Away, api.Again, api.Return} {
		j := api.Job{Kind: kind, Order: 2, Bin: 9, From: at(2, 1), To: at(1, 0)}
		s := mayBe(t, c, hoists(c, api.Drop, at(1, 0), j, 9))
		turns(t, c, s, evDone(0), func(n *api.State) {
			n.Robots[0] = api.Robot{At: flat(1, 0), Num: 3, Moves: n.Robots[0].Moves[1:]}
			n.Stacks[0].Bins = []int{10, 9}
			n.Jobs = n.Jobs[1:]
		})
	}
	j := api.Job{Kind: api.Fetch, Order: 2, Bin: 9, From: at(2, 1), To: at(3, 0)}
	turns(t, c, mayBe(t, c, hoists(c, api.Drop, at(3, 0), j, 9)), evDone(0), func(n *api.State) {
		n.Robots[0] = api.Robot{At: flat(3, 0), Num: 3, Moves: n.Robots[0].Moves[1:]}
		n.Ports[0] = api.Port{Bin: 9, Queue: []int{3}}
		n.Orders[1].State = api.Delivered
		n.Jobs = n.Jobs[1:]
	})
	// A Return, put down at a port: nobody's order is delivered by that.
	j = api.Job{Kind: api.Return, Order: 2, Bin: 9, From: at(2, 1), To: at(3, 0)}
	turns(t, c, mayBe(t, c, hoists(c, api.Drop, at(3, 0), j, 9)), evDone(0), func(n *api.State) {
		n.Robots[0] = api.Robot{At: flat(3, 0), Num: 3, Moves: n.Robots[0].Moves[1:]}
		n.Ports[0].Bin = 9
		n.Jobs = n.Jobs[1:]
	})
	// The job that is gone may be the last one, and stand behind others.
	s := hoists(c, api.Drop, at(1, 0), back(9, at(2, 1), at(1, 0)), 9)
	s.Jobs[0].Robot, s.Jobs[0].Bin, s.Jobs[1].Robot, s.Jobs[1].Bin, s.Robots[0].Job = -1, 7, 0, 9, 2
	turns(t, c, mayBe(t, c, s), evDone(0), func(n *api.State) {
		n.Robots[0] = api.Robot{At: flat(1, 0), Num: 3, Moves: n.Robots[0].Moves[1:]}
		n.Stacks[0].Bins = []int{10, 9}
		n.Jobs = n.Jobs[:1]
	})
}

// P16.4: a Drop where there is no room: a stack of Height bins, a port with a bin, a cell that is neither; without a load.
func TestDropRefused(t *testing.T) {
	c := three()
	s := hoists(c, api.Drop, at(1, 1), back(9, at(2, 1), at(1, 1)), 9)
	refuses(t, c, mayBe(t, c, s), evDone(0), api.ErrState)
	s.Stacks[4].Bins, s.Stacks[5].Bins = []int{4, 5}, []int{7, 8, 6}
	takes(t, c, mayBe(t, c, s), evDone(0))
	s = hoists(c, api.Drop, at(3, 0), back(9, at(2, 1), at(3, 0)), 9)
	takes(t, c, mayBe(t, c, s), evDone(0))
	s.Ports[0].Bin, s.Stacks[0].Bins = 10, nil
	refuses(t, c, mayBe(t, c, s), evDone(0), api.ErrState)
	s = hoists(c, api.Drop, at(4, 2), back(9, at(2, 1), at(4, 2)), 9)
	s.Robots[1].At = flat(1, 0)
	refuses(t, c, mayBe(t, c, s), evDone(0), api.ErrState)
	for _, cell := range []api.Cell{at(1, 0), at(3, 0)} {
		s = hoists(c, api.Drop, cell, back(9, at(2, 1), cell), 0)
		refuses(t, c, mayBe(t, c, s), evDone(0), api.ErrState)
		s.Robots[0].Job, s.Jobs[0].Robot = 0, -1
		refuses(t, c, mayBe(t, c, s), evDone(0), api.ErrState)
	}
}
