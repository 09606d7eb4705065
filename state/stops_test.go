package state_test

import (
	"testing"

	"skep/api"
	"skep/grid"
)

// P16.4: EvStop: one epoch more, held; who is Out has its first move alone, others none; jobs, loads, Nums stay; held or not, over and over.
func TestStop(t *testing.T) {
	c := three()
	s := but(busy(t), func(s *api.State) { s.Robots[0].Num = 5 })
	s = turns(t, c, s, evStop(), func(n *api.State) {
		n.Epoch, n.Held = 1, true
		n.Robots[0].Moves = nil
		n.Robots[1].Moves = n.Robots[1].Moves[:1]
	})
	s = turns(t, c, s, evStop(), func(n *api.State) { n.Epoch = 2 })
	s = goes(t, c, s, evHalt(0, 9, s.Robots[0].At))
	s = turns(t, c, s, evStop(), func(n *api.State) { n.Epoch, n.Robots[0].Stands = 3, false })
	s = goes(t, c, s, evHalt(0, 9, s.Robots[0].At), evHalt(1, 0, s.Robots[1].At))
	s = turns(t, c, s, evStop(), func(n *api.State) {
		n.Epoch, n.Robots[0].Stands, n.Robots[1].Stands = 4, false, false
	})
	refuses(t, c, s, evResume(), api.ErrState)
	none := bare(2, 2, 1, 1)
	turns(t, none, plainFirst(none), evStop(), func(n *api.State) { n.Epoch, n.Held = 1, true })
}

// P16.4: Epoch at 2^40.
func TestStopIsFull(t *testing.T) {
	c := three()
	for _, s := range []api.State{plainFirst(c), busy(t), held(t)} {
		s.Epoch = most
		refuses(t, c, s, evStop(), api.ErrFull)
		s.Epoch--
		if n := takes(t, c, s, evStop()); n.Epoch != most {
			t.Error(n.Epoch)
		}
	}
}

// P16.4: EvResume: all stand; its errors.
func TestResume(t *testing.T) {
	c := three()
	refuses(t, c, plainFirst(c), evResume(), api.ErrState)
	refuses(t, c, busy(t), evResume(), api.ErrState)
	refuses(t, c, takes(t, c, plainFirst(c), evStop()), evResume(), api.ErrState)
	s := held(t)
	refuses(t, c, s, evResume(), api.ErrState)
	s = goes(t, c, s, evHalt(1, 0, s.Robots[1].At))
	s = turns(t, c, s, evResume(), func(n *api.State) {
		n.Held, n.Robots[0].Stands, n.Robots[1].Stands = false, false, false
	})
	refuses(t, c, s, evResume(), api.ErrState)
	// The other one stands, the first does not.
	s = goes(t, c, s, evStop(), evHalt(1, 0, s.Robots[1].At))
	refuses(t, c, s, evResume(), api.ErrState)
	none := bare(2, 2, 1, 1)
	s = goes(t, none, plainFirst(none), evStop())
	turns(t, none, s, evResume(), func(n *api.State) { n.Held = false })
}

// stands fails unless EvHalt is taken, and the robot stands there, with what it had; nothing else is turned.
func stands(t *testing.T, c api.Conf, s api.State, robot int, p api.Pose) {
	t.Helper()
	r := s.Robots[robot]
	turns(t, c, s, evHalt(robot, r.Load, p), func(n *api.State) {
		n.Robots[robot] = api.Robot{At: p, Load: r.Load, Job: r.Job, Stands: true}
	})
}

// all is all poses that fit, and some that do not.
func all(c api.Conf) []api.Pose {
	var out []api.Pose
	for y := -1; y <= c.H; y++ {
		for x := -1; x <= c.W; x++ {
			out = append(out, flat(x, y), down(x, y))
		}
	}
	return append(out, flat(1<<62, -1<<62))
}

// P16.4: EvHalt of one that was not Out: at its pose, with its load, nowhere else; not twice; not while the hive is not held.
func TestHalt(t *testing.T) {
	c := three()
	s := goes(t, c, busy(t), evStop())
	for _, p := range all(c) {
		if p == s.Robots[0].At {
			stands(t, c, s, 0, p)
		} else {
			refuses(t, c, s, evHalt(0, 9, p), api.ErrState)
		}
		refuses(t, c, s, evHalt(0, 0, p), api.ErrState)
	}
	for _, load := range append(ends(), -1, 0, 7, 8, 10) {
		refuses(t, c, s, evHalt(0, load, s.Robots[0].At), api.ErrState)
	}
	refuses(t, c, busy(t), evHalt(0, 9, s.Robots[0].At), api.ErrState)
	refuses(t, c, plainFirst(c), evHalt(0, 0, flat(0, 2)), api.ErrState)
	refuses(t, c, held(t), evHalt(0, 9, s.Robots[0].At), api.ErrState)
	// Num is none's any more, its moves too.
	stands(t, c, but(s, func(s *api.State) { s.Robots[0].Num = 77 }), 0, s.Robots[0].At)
}

// out is a hive that is held while robot 0 is Out with a move.
func out(t *testing.T, c api.Conf, m api.Move) api.State {
	t.Helper()
	s := plainFirst(c)
	s.Epoch, s.Held = 1, true
	s.Robots[0] = api.Robot{At: m.From, Moves: []api.Move{m}, Out: true, Num: 4}
	return mayBe(t, c, s)
}

// P16.4: EvHalt of one that is Out with a run, each way: wherever it comes by, and nowhere else.
func TestHaltOfARun(t *testing.T) {
	c := bare(5, 5, 1, 1)
	c.Robots = []api.Pose{flat(0, 0)}
	g, _ := grid.New(c)
	for _, from := range []api.Pose{flat(0, 0), flat(3, 4), down(0, 0), down(4, 3), flat(1, 2), down(2, 1)} {
		for m := range g.Moves(from) {
			if m.Kind != api.Run {
				continue
			}
			m.At = 20
			m.End = 20 + lasts(c, m)
			s := out(t, c, m)
			found := 0
			for _, p := range all(c) {
				inRow, inColumn := p.At.Y == from.At.Y, p.At.X == from.At.X
				x, y := p.At.X-from.At.X, p.At.Y-from.At.Y
				on := p.Down == from.Down && map[int]bool{
					api.North: inColumn && y <= 0 && -y <= m.N, api.South: inColumn && y >= 0 && y <= m.N,
					api.West: inRow && x <= 0 && -x <= m.N, api.East: inRow && x >= 0 && x <= m.N,
				}[m.Dir]
				if on {
					found++
					stands(t, c, s, 0, p)
				} else {
					refuses(t, c, s, evHalt(0, 0, p), api.ErrState)
				}
				refuses(t, c, s, evHalt(0, 1, p), api.ErrState)
			}
			if found != m.N+1 {
				t.Errorf("%v: %d poses", m, found)
			}
		}
	}
}

// P16.4: EvHalt of one that is Out with a turn: at either end.
func TestHaltOfATurn(t *testing.T) {
	c := bare(4, 4, 1, 1)
	c.Robots = []api.Pose{flat(0, 0)}
	for _, from := range []api.Pose{flat(1, 1), down(1, 1), flat(2, 2), down(0, 0)} {
		to := api.Pose{At: from.At, Down: !from.Down}
		s := out(t, c, api.Move{Kind: api.Turn, From: from, To: to, At: 0, End: c.Turn})
		for _, p := range all(c) {
			if p == from || p == to {
				stands(t, c, s, 0, p)
			} else {
				refuses(t, c, s, evHalt(0, 0, p), api.ErrState)
			}
			refuses(t, c, s, evHalt(0, 1, p), api.ErrState)
		}
	}
}

// stopped is a hive that was stopped.
func stopped(t *testing.T, c api.Conf, s api.State) api.State {
	t.Helper()
	return goes(t, c, mayBe(t, c, s), evStop())
}

// P16.4: EvHalt of one that is Out with a lift: with nothing it was not done, with the job's bin it was.
func TestHaltOfALift(t *testing.T) {
	c := three()
	s := stopped(t, c, hoists(c, api.Lift, at(1, 1), back(6, at(1, 1), at(1, 0)), 0))
	stands(t, c, s, 0, flat(1, 1))
	turns(t, c, s, evHalt(0, 6, flat(1, 1)), func(n *api.State) {
		n.Robots[0] = api.Robot{At: flat(1, 1), Load: 6, Job: 1, Stands: true}
		n.Stacks[4].Bins = []int{4, 5}
	})
	for _, p := range all(c) {
		if p != flat(1, 1) {
			refuses(t, c, s, evHalt(0, 6, p), api.ErrState)
			refuses(t, c, s, evHalt(0, 0, p), api.ErrState)
		}
	}
	for _, load := range append(ends(), -1, 4, 5, 7, 10) {
		refuses(t, c, s, evHalt(0, load, flat(1, 1)), api.ErrState)
	}
	// At a port.
	s = hoists(c, api.Lift, at(3, 0), back(10, at(3, 0), at(1, 0)), 0)
	s.Stacks[0].Bins, s.Ports[0].Bin = nil, 10
	s = stopped(t, c, s)
	stands(t, c, s, 0, flat(3, 0))
	turns(t, c, s, evHalt(0, 10, flat(3, 0)), func(n *api.State) {
		n.Robots[0] = api.Robot{At: flat(3, 0), Load: 10, Job: 1, Stands: true}
		n.Ports[0].Bin = 0
	})
	// One that cannot be done was not done.
	s = stopped(t, c, hoists(c, api.Lift, at(1, 1), back(5, at(1, 1), at(1, 0)), 0))
	stands(t, c, s, 0, flat(1, 1))
	refuses(t, c, s, evHalt(0, 5, flat(1, 1)), api.ErrState)
	refuses(t, c, s, evHalt(0, 6, flat(1, 1)), api.ErrState)
	// One that is not Out has no move any more.
	s = hoists(c, api.Lift, at(1, 1), back(6, at(1, 1), at(1, 0)), 0)
	s.Robots[0].Out = false
	s = stopped(t, c, s)
	stands(t, c, s, 0, flat(1, 1))
	refuses(t, c, s, evHalt(0, 6, flat(1, 1)), api.ErrState)
}

// P16.4: EvHalt of one that is Out with a drop: with its load it was not done, with nothing it was; and what is delivered is.
func TestHaltOfADrop(t *testing.T) {
	c := three()
	s := stopped(t, c, hoists(c, api.Drop, at(1, 0), back(9, at(2, 1), at(1, 0)), 9))
	stands(t, c, s, 0, flat(1, 0))
	turns(t, c, s, evHalt(0, 0, flat(1, 0)), func(n *api.State) {
		n.Robots[0] = api.Robot{At: flat(1, 0), Stands: true}
		n.Stacks[0].Bins = []int{10, 9}
		n.Jobs = n.Jobs[1:]
	})
	for _, p := range all(c) {
		if p != flat(1, 0) {
			refuses(t, c, s, evHalt(0, 9, p), api.ErrState)
			refuses(t, c, s, evHalt(0, 0, p), api.ErrState)
		}
	}
	for _, load := range append(ends(), -1, 8, 10) {
		refuses(t, c, s, evHalt(0, load, flat(1, 0)), api.ErrState)
	}
	j := api.Job{Kind: api.Fetch, Order: 2, Bin: 9, From: at(2, 1), To: at(3, 0)}
	s = stopped(t, c, hoists(c, api.Drop, at(3, 0), j, 9))
	stands(t, c, s, 0, flat(3, 0))
	turns(t, c, s, evHalt(0, 0, flat(3, 0)), func(n *api.State) {
		n.Robots[0] = api.Robot{At: flat(3, 0), Stands: true}
		n.Ports[0] = api.Port{Bin: 9, Queue: []int{3}}
		n.Orders[1].State = api.Delivered
		n.Jobs = n.Jobs[1:]
	})
	// No room: it was not done.
	s = stopped(t, c, hoists(c, api.Drop, at(1, 1), back(9, at(2, 1), at(1, 1)), 9))
	stands(t, c, s, 0, flat(1, 1))
	refuses(t, c, s, evHalt(0, 0, flat(1, 1)), api.ErrState)
}
