package state_test

import (
	"slices"
	"testing"

	"skep/api"
	"skep/state"
)

// busy is a state with a bit of all: an order delivered whose bin stands at port 1 and is to be brought back, two active, two waiting; robot 0 with a load on its way, robot 1 Out.
func busy(t *testing.T) api.State {
	t.Helper()
	c := three()
	s := goes(t, c, plainFirst(c), evOrder(10, 1), evBegin(1))
	s = works(t, c, s, 0, 1, 0, 0)
	s = moved(t, c, s, 0, len(s.Robots[0].Moves))
	s = goes(t, c, s, evOrder(8, 0), evBegin(2), evOrder(12, 0), evOrder(6, 0), evOrder(3, 2), evBegin(5), evDrain(1))
	s = works(t, c, s, 0, 2, 500, 0)
	s = until(t, c, s, 0, api.Lift)
	s = goes(t, c, s, evDone(0))
	s = works(t, c, s, 1, 4, 500, 0)
	return until(t, c, s, 1, api.Run)
}

// held is the busy hive, stopped: robot 0 stands, robot 1 does not yet.
func held(t *testing.T) api.State {
	t.Helper()
	s := busy(t)
	return goes(t, three(), s, evStop(), evHalt(0, 9, s.Robots[0].At))
}

// What busy and held are, so that the faults below are what they are said to be.
func TestBusy(t *testing.T) {
	s := busy(t)
	if !slices.Equal(s.Orders, []api.Order{{ID: 1, Bin: 10, Port: 1, State: 2}, {ID: 2, Bin: 8, Port: 0, State: 1}, {ID: 3, Bin: 12, Port: 0}, {ID: 4, Bin: 6, Port: 0}, {ID: 5, Bin: 3, Port: 2, State: 1}}) {
		t.Errorf("%+v", s.Orders)
	}
	if !slices.Equal(s.Jobs, []api.Job{
		{ID: 2, Kind: api.Away, Order: 2, Bin: 9, From: at(2, 1), To: at(2, 0), Robot: 0},
		{ID: 3, Kind: api.Fetch, Order: 2, Bin: 8, From: at(2, 1), To: at(3, 0), Robot: -1},
		{ID: 4, Kind: api.Fetch, Order: 5, Bin: 3, From: at(4, 1), To: at(5, 0), Robot: 1},
		{ID: 5, Kind: api.Return, Bin: 10, From: at(0, 0), To: at(1, 0), Robot: -1}}) {
		t.Errorf("%+v", s.Jobs)
	}
	if s.Ports[0].Active != 2 || !slices.Equal(s.Ports[0].Queue, []int{3, 4}) || s.Ports[1].Bin != 10 || s.Ports[2].Active != 5 || s.NextOrder != 6 || s.NextJob != 6 {
		t.Errorf("%+v", s)
	}
	if a, b := s.Robots[0], s.Robots[1]; a.Load != 9 || a.Job != 2 || len(a.Moves) < 2 || a.Out || b.Load != 0 || b.Job != 4 || len(b.Moves) < 2 || !b.Out {
		t.Errorf("%+v", s.Robots)
	}
	s = held(t)
	if a, b := s.Robots[0], s.Robots[1]; !s.Held || s.Epoch != 1 || a.Load != 9 || a.Job != 2 || !a.Stands || !b.Out || len(b.Moves) != 1 || b.Num == 0 {
		t.Errorf("%+v", s.Robots)
	}
}

// turned is a state of which something is turned.
type turned struct {
	name string
	turn func(s *api.State)
}

// each fails unless Check says this of a state with each of these turns, and the chapter's words too.
func each(t *testing.T, c api.Conf, s api.State, want bool, l []turned) {
	t.Helper()
	for _, x := range l {
		n := nilled(s)
		x.turn(&n)
		if got := state.Check(c, n); got != want {
			t.Errorf("%s: %v", x.name, got)
		}
		if plainCheck(c, n) != want {
			t.Errorf("%s: the words say otherwise", x.name)
		}
	}
}

// P16.2: states that may be, numbers at their least and greatest.
func TestCheckAllows(t *testing.T) {
	c := three()
	each(t, c, plainFirst(c), true, []turned{
		{"first", func(s *api.State) {}},
		{"held", func(s *api.State) { s.Held = true }},
		{"all stand", func(s *api.State) { s.Held, s.Robots[0].Stands, s.Robots[1].Stands = true, true, true }},
		{"Seq", func(s *api.State) { s.Seq = most }},
		{"Epoch", func(s *api.State) { s.Epoch = most }},
		{"Num", func(s *api.State) { s.Robots[1].Num = most }},
		{"NextJob", func(s *api.State) { s.NextJob = most }},
		{"elsewhere", func(s *api.State) { s.Robots[0].At = down(2, 0) }},
		{"other stacks", func(s *api.State) { s.Stacks[0].Bins, s.Stacks[1].Bins = nil, []int{10} }},
		{"at a port", func(s *api.State) { s.Stacks[0].Bins, s.Ports[2].Bin = nil, 10 }},
	})
	each(t, c, busy(t), true, []turned{
		{"busy", func(s *api.State) {}},
		{"no go-ahead", func(s *api.State) { s.Robots[1].Out = false }},
		{"no moves", func(s *api.State) { s.Robots[0].Moves = nil }},
		{"Num 0", func(s *api.State) { s.Robots[1].Num = 0 }},
		{"a Return of an order", func(s *api.State) { s.Jobs[3].Order = 1 }},
		{"an Away of an order that is delivered", func(s *api.State) { s.Jobs[0].Order = 1 }},
		{"an Away of an order that waits", func(s *api.State) { s.Jobs[0].Order = 3 }},
		{"an Again", func(s *api.State) { s.Jobs[0].Kind = api.Again }},
		{"a last job", func(s *api.State) { s.Jobs[3].ID = most - 1; s.NextJob = most }},
		{"from and to any open cell", func(s *api.State) { s.Jobs[3].From, s.Jobs[3].To = at(0, 2), at(3, 0) }},
		{"two jobs for a bin", func(s *api.State) { s.Jobs[3].Bin = 9 }},
		{"two orders for a bin, one delivered", func(s *api.State) { s.Orders[2].Bin = 10 }},
		{"no jobs but the robots'", func(s *api.State) { s.Jobs = []api.Job{s.Jobs[0], s.Jobs[2]} }},
		{"a load that was not lifted yet", func(s *api.State) { s.Robots[0].Load = 0; s.Stacks[5].Bins = []int{7, 8, 9} }},
	})
	each(t, c, held(t), true, []turned{
		{"held", func(s *api.State) {}},
		{"nobody stands", func(s *api.State) { s.Robots[0].Stands = false }},
		{"Num of one that does not stand", func(s *api.State) { s.Robots[0].Stands = false; s.Robots[0].Num = most }},
		{"no move", func(s *api.State) { s.Robots[1].Out, s.Robots[1].Moves = false, nil }},
	})
}

// P16.2: each number one below its least and one above its greatest, and far beyond.
func TestCheckNumbers(t *testing.T) {
	c := three()
	for _, s := range []api.State{plainFirst(c), busy(t), held(t)} {
		for _, v := range append(ends(), -1, most+1) {
			if v >= 0 && v <= most {
				continue
			}
			each(t, c, s, false, []turned{
				{"Seq", func(s *api.State) { s.Seq = v }},
				{"Epoch", func(s *api.State) { s.Epoch = v }},
				{"Num", func(s *api.State) { s.Robots[1].Num = v }},
				{"NextJob", func(s *api.State) { s.NextJob = v }},
				{"NextOrder", func(s *api.State) { s.NextOrder = v }},
			})
		}
	}
	each(t, c, plainFirst(c), false, []turned{
		{"NextJob 0", func(s *api.State) { s.NextJob = 0 }},
		{"NextOrder 0", func(s *api.State) { s.NextOrder = 0 }},
		{"NextOrder 2", func(s *api.State) { s.NextOrder = 2 }},
	})
}

// P16.2: the stack cells in order, each with at most Height bins.
func TestCheckStacks(t *testing.T) {
	c := three()
	each(t, c, plainFirst(c), false, []turned{
		{"one too few", func(s *api.State) { s.Stacks = s.Stacks[:9] }},
		{"the first too few", func(s *api.State) { s.Stacks[1].Bins = []int{10}; s.Stacks = s.Stacks[1:] }},
		{"one too many", func(s *api.State) { s.Stacks = append(s.Stacks, pile(4, 2)) }},
		{"one twice", func(s *api.State) { s.Stacks = append(s.Stacks, pile(3, 2)) }},
		{"none", func(s *api.State) { s.Stacks = nil }},
		{"another cell", func(s *api.State) { s.Stacks[9].At = at(4, 2) }},
		{"a port's cell", func(s *api.State) { s.Stacks[0].At = at(0, 0) }},
		{"wrong order", func(s *api.State) { s.Stacks[1], s.Stacks[2] = s.Stacks[2], s.Stacks[1] }},
		{"too high", func(s *api.State) { s.Stacks[0].Bins, s.Stacks[4].Bins = nil, []int{4, 5, 6, 10} }},
	})
}

// P16.2: as many robots and ports as in the config.
func TestCheckHowMany(t *testing.T) {
	c := three()
	each(t, c, plainFirst(c), false, []turned{
		{"a robot too few", func(s *api.State) { s.Robots = s.Robots[:1] }},
		{"a robot too many", func(s *api.State) { s.Robots = append(s.Robots, api.Robot{At: flat(1, 0)}) }},
		{"no robots", func(s *api.State) { s.Robots = nil }},
		{"a port too few", func(s *api.State) { s.Ports = s.Ports[:2] }},
		{"a port too many", func(s *api.State) { s.Ports = append(s.Ports, api.Port{}) }},
		{"no ports", func(s *api.State) { s.Ports = nil }},
		{"nothing", func(s *api.State) { *s = api.State{NextOrder: 1, NextJob: 1} }},
	})
}

// P16.2: the config's bins, each once, none lacking.
func TestCheckBins(t *testing.T) {
	c := three()
	each(t, c, plainFirst(c), false, []turned{
		{"one lacks", func(s *api.State) { s.Stacks[0].Bins = nil }},
		{"one twice", func(s *api.State) { s.Stacks[1].Bins = []int{10} }},
		{"one twice in a stack", func(s *api.State) { s.Stacks[0].Bins = []int{10, 10} }},
		{"one twice, another lacks", func(s *api.State) { s.Stacks[0].Bins = []int{12} }},
		{"none of the config's", func(s *api.State) { s.Stacks[1].Bins = []int{13} }},
		{"none of the config's, and one lacks", func(s *api.State) { s.Stacks[0].Bins = []int{99} }},
		{"0 in a stack", func(s *api.State) { s.Stacks[0].Bins = []int{10, 0} }},
		{"below 0", func(s *api.State) { s.Stacks[0].Bins = []int{-10} }},
		{"twice, at a port", func(s *api.State) { s.Ports[1].Bin = 10 }},
		{"at two ports", func(s *api.State) { s.Stacks[0].Bins, s.Ports[0].Bin, s.Ports[1].Bin = nil, 10, 10 }},
		{"at a port, none of the config's", func(s *api.State) { s.Ports[0].Bin = 13 }},
		{"at a port, below 0", func(s *api.State) { s.Ports[0].Bin = -1 }},
	})
	each(t, c, busy(t), false, []turned{
		{"twice, on a robot", func(s *api.State) { s.Stacks[5].Bins = []int{7, 8, 9} }},
		{"gone from the robot", func(s *api.State) { s.Robots[0].Load = 0 }},
		{"gone from the port", func(s *api.State) { s.Ports[1].Bin = 0 }},
		{"lifted, and still there", func(s *api.State) { s.Robots[1].Load = 3 }},
	})
}

// P16.2: poses that fit, moves that are right, at most MaxMoves.
func TestCheckMoves(t *testing.T) {
	c := three()
	each(t, c, plainFirst(c), false, []turned{
		{"out of the grid", func(s *api.State) { s.Robots[1].At = flat(5, 1) }},
		{"far out of the grid", func(s *api.State) { s.Robots[1].At = flat(ends()[0], ends()[3]) }},
		{"on a blocked cell", func(s *api.State) { s.Robots[1].At = flat(2, 1) }},
		{"on a blocked cell, to the south", func(s *api.State) { s.Robots[1].At = down(3, 0) }},
	})
	each(t, c, busy(t), false, []turned{
		{"from elsewhere", func(s *api.State) { s.Robots[0].Moves = s.Robots[0].Moves[1:] }},
		{"out of order", func(s *api.State) { l := s.Robots[0].Moves; l[0], l[1] = l[1], l[0] }},
		{"ahead of 0", func(s *api.State) { m := &s.Robots[0].Moves[0]; m.At, m.End = -1, m.End-m.At-1 }},
		{"too long", func(s *api.State) { l := s.Robots[0].Moves; l[len(l)-1].End++ }},
		{"too short", func(s *api.State) { s.Robots[0].Moves[0].End-- }},
		{"to elsewhere", func(s *api.State) { l := s.Robots[0].Moves; l[len(l)-1].To.Down = !l[len(l)-1].To.Down }},
		{"no such kind", func(s *api.State) { s.Robots[0].Moves[0].Kind = 5 }},
		{"at the end of time", func(s *api.State) { m := &s.Robots[0].Moves[0]; m.At, m.End = api.Forever-(m.End-m.At), api.Forever }},
	})
	many := func(n int) func(s *api.State) {
		return func(s *api.State) {
			s.Robots[1].Moves = nil
			for i := range n {
				s.Robots[1].Moves = append(s.Robots[1].Moves, api.Move{Kind: api.Lift, From: flat(4, 2), To: flat(4, 2), At: 6 * i, End: 6*i + 6})
			}
		}
	}
	each(t, c, plainFirst(c), true, []turned{{"one", many(1)}, {"MaxMoves", many(4096)}})
	each(t, c, plainFirst(c), false, []turned{{"one more", many(4097)}, {"twice as many", many(8192)}})
}

// P16.2: Out only with moves, Stands only while held; what those have that stand, and those that do not.
func TestCheckStands(t *testing.T) {
	c := three()
	each(t, c, plainFirst(c), false, []turned{
		{"Out without moves", func(s *api.State) { s.Robots[0].Out = true }},
		{"Out without moves, held", func(s *api.State) { s.Held, s.Robots[0].Out = true, true }},
		{"Stands, not held", func(s *api.State) { s.Robots[1].Stands = true }},
	})
	each(t, c, busy(t), false, []turned{
		{"held with moves", func(s *api.State) { s.Held = true }},
		{"held, two moves and Out", func(s *api.State) { s.Held, s.Robots[0].Moves = true, nil }},
		{"held, one move, not Out", func(s *api.State) {
			s.Held, s.Robots[0].Moves, s.Robots[1].Out, s.Robots[1].Moves = true, nil, false, s.Robots[1].Moves[:1]
		}},
		{"Stands with moves, not held", func(s *api.State) { s.Robots[0].Stands = true }},
	})
	each(t, c, held(t), false, []turned{
		{"stands with Num", func(s *api.State) { s.Robots[0].Num = 1 }},
		{"stands with a move", func(s *api.State) { s.Robots[1].Stands, s.Robots[1].Num = true, 0 }},
		{"stands, not Out, with a move", func(s *api.State) { s.Robots[1].Stands, s.Robots[1].Num, s.Robots[1].Out = true, 0, false }},
		{"not Out", func(s *api.State) { s.Robots[1].Out = false }},
		{"Out, no move", func(s *api.State) { s.Robots[1].Moves = nil }},
		{"held no more", func(s *api.State) { s.Held = false }},
	})
}

// P16.2: orders' IDs, bins, ports, states.
func TestCheckOrders(t *testing.T) {
	c := three()
	each(t, c, busy(t), false, []turned{
		{"one too few", func(s *api.State) { s.Orders = s.Orders[1:] }},
		{"the last too few", func(s *api.State) { s.Orders = append(s.Orders, api.Order{ID: 7, Bin: 7, State: 2}); s.NextOrder = 8 }},
		{"NextOrder too low", func(s *api.State) { s.NextOrder = 5 }},
		{"NextOrder too high", func(s *api.State) { s.NextOrder = 7 }},
		{"one too many", func(s *api.State) { s.Orders = append(s.Orders, api.Order{ID: 6, Bin: 7, State: 2}) }},
		{"wrong order", func(s *api.State) { s.Orders[2], s.Orders[3] = s.Orders[3], s.Orders[2] }},
		{"an ID twice", func(s *api.State) { s.Orders = append(s.Orders, api.Order{ID: 1, Bin: 7, State: 2}); s.NextOrder = 7 }},
		{"an ID 0", func(s *api.State) { s.Orders[0].ID = 0 }},
		{"no bin of the config's", func(s *api.State) { s.Orders[0].Bin = 13 }},
		{"no bin", func(s *api.State) { s.Orders[0].Bin = 0 }},
		{"no port", func(s *api.State) { s.Orders[0].Port = -1 }},
		{"a port too high", func(s *api.State) { s.Orders[0].Port = 3 }},
		{"no state", func(s *api.State) { s.Orders[0].State = -1 }},
		{"a state too high", func(s *api.State) { s.Orders[0].State = 3 }},
		{"a bin asked for twice", func(s *api.State) { s.Orders[2].Bin = 6 }},
		{"a bin asked for and active", func(s *api.State) { s.Orders[3].Bin = 8 }},
	})
	many := func(n int) func(s *api.State) {
		return func(s *api.State) {
			for i := range n {
				s.Orders = append(s.Orders, api.Order{ID: i + 1, Bin: 7, Port: i % 3, State: api.Delivered})
			}
			s.NextOrder = n + 1
		}
	}
	each(t, c, plainFirst(c), true, []turned{{"one", many(1)}, {"MaxOrders", many(4096)}})
	each(t, c, plainFirst(c), false, []turned{{"one more", many(4097)}})
}

// P16.2: the ports' queues and active orders.
func TestCheckPorts(t *testing.T) {
	c := three()
	each(t, c, busy(t), false, []turned{
		{"one too few", func(s *api.State) { s.Ports[0].Queue = []int{3} }},
		{"none", func(s *api.State) { s.Ports[0].Queue = nil }},
		{"one too many", func(s *api.State) { s.Ports[1].Queue = []int{6} }},
		{"wrong order", func(s *api.State) { s.Ports[0].Queue = []int{4, 3} }},
		{"one twice", func(s *api.State) { s.Ports[0].Queue = []int{3, 3} }},
		{"another port's", func(s *api.State) { s.Ports[0].Queue, s.Ports[1].Queue = []int{3}, []int{4} }},
		{"one that is active", func(s *api.State) { s.Ports[2].Queue = []int{5} }},
		{"one that is delivered", func(s *api.State) { s.Ports[1].Queue = []int{1} }},
		{"waits at another port", func(s *api.State) { s.Orders[3].Port = 1 }},
		{"more than Queue", func(s *api.State) {
			s.Orders = append(s.Orders, api.Order{ID: 6, Bin: 7, Port: 0})
			s.Ports[0].Queue, s.NextOrder = []int{3, 4, 6}, 7
		}},
		{"no Active", func(s *api.State) { s.Ports[0].Active = 0 }},
		{"Active one that waits", func(s *api.State) { s.Ports[0].Active = 3 }},
		{"Active one that is delivered", func(s *api.State) { s.Ports[1].Active = 1 }},
		{"Active one that is another port's", func(s *api.State) { s.Ports[0].Active, s.Ports[2].Active = 5, 2 }},
		{"Active none that there is", func(s *api.State) { s.Ports[1].Active = -1 }},
		{"two active", func(s *api.State) {
			s.Orders = append(s.Orders, api.Order{ID: 6, Bin: 7, Port: 0, State: api.Active})
			s.NextOrder = 7
		}},
		{"two active, the later one told", func(s *api.State) {
			s.Orders = append(s.Orders, api.Order{ID: 6, Bin: 7, Port: 0, State: api.Active})
			s.Ports[0].Active, s.NextOrder = 6, 7
		}},
	})
}

// P16.2: jobs' IDs, kinds, bins, cells and orders.
func TestCheckJobs(t *testing.T) {
	c := three()
	each(t, c, busy(t), false, []turned{
		{"an ID 0", func(s *api.State) { s.Jobs = append([]api.Job{s.Jobs[3]}, s.Jobs[:3]...); s.Jobs[0].ID = 0 }},
		{"an ID below 0", func(s *api.State) { s.Jobs = append([]api.Job{s.Jobs[3]}, s.Jobs[:3]...); s.Jobs[0].ID = -1 }},
		{"an ID NextJob", func(s *api.State) { s.Jobs[3].ID = 6 }},
		{"NextJob too low", func(s *api.State) { s.NextJob = 5 }},
		{"NextJob 2^40 + 1", func(s *api.State) { s.Jobs[3].ID = most; s.NextJob = most + 1 }},
		{"an ID twice", func(s *api.State) { s.Jobs[3].ID = 4 }},
		{"wrong order", func(s *api.State) { s.Jobs[1], s.Jobs[3] = s.Jobs[3], s.Jobs[1] }},
		{"a kind 0", func(s *api.State) { s.Jobs[3].Kind = 0 }},
		{"a kind 5", func(s *api.State) { s.Jobs[3].Kind = 5 }},
		{"no bin of the config's", func(s *api.State) { s.Jobs[3].Bin = 13 }},
		{"no bin", func(s *api.State) { s.Jobs[3].Bin = 0 }},
		{"from a blocked cell", func(s *api.State) { s.Jobs[3].From = at(3, 1) }},
		{"from out of the grid", func(s *api.State) { s.Jobs[3].From = at(6, 0) }},
		{"to a blocked cell", func(s *api.State) { s.Jobs[3].To = at(3, 1) }},
		{"to out of the grid", func(s *api.State) { s.Jobs[3].To = at(0, -1) }},
		{"from and to the same", func(s *api.State) { s.Jobs[3].To = at(0, 0) }},
		{"no order", func(s *api.State) { s.Jobs[3].Order = 6 }},
		{"an order below 0", func(s *api.State) { s.Jobs[3].Order = -1 }},
		{"an Away without order", func(s *api.State) { s.Jobs[0].Order = 0 }},
		{"an Again without order", func(s *api.State) { s.Jobs[0].Kind, s.Jobs[0].Order = api.Again, 0 }},
		{"an Away of no order", func(s *api.State) { s.Jobs[0].Order = 6 }},
		{"a Fetch without order", func(s *api.State) { s.Jobs[1].Order = 0 }},
		{"a Fetch of one that waits", func(s *api.State) { s.Jobs[1].Order, s.Jobs[1].Bin = 3, 12 }},
		{"a Fetch of one that is delivered", func(s *api.State) { s.Jobs[1].Order, s.Jobs[1].Bin, s.Jobs[1].To = 1, 10, at(0, 0) }},
		{"a Fetch of another bin", func(s *api.State) { s.Jobs[1].Bin = 7 }},
		{"a Fetch to another port", func(s *api.State) { s.Jobs[1].To = at(5, 0) }},
		{"a Fetch to no port", func(s *api.State) { s.Jobs[1].To = at(2, 0) }},
		{"two Fetches", func(s *api.State) { j := s.Jobs[1]; j.ID = 5; s.Jobs[3] = j }},
	})
}

// P16.2: who does which job, and what it has loaded.
func TestCheckWork(t *testing.T) {
	c := three()
	each(t, c, busy(t), false, []turned{
		{"a robot below -1", func(s *api.State) { s.Jobs[3].Robot = -2 }},
		{"a robot that there is not", func(s *api.State) { s.Jobs[3].Robot = 2 }},
		{"a robot with another job", func(s *api.State) { s.Jobs[3].Robot = 0 }},
		{"nobody's, but a robot's", func(s *api.State) { s.Jobs[0].Robot = -1 }},
		{"another's", func(s *api.State) { s.Jobs[0].Robot, s.Jobs[2].Robot = 1, 0 }},
		{"gone", func(s *api.State) { s.Jobs = s.Jobs[1:] }},
		{"two robots'", func(s *api.State) { s.Robots[1].Job, s.Jobs[2].Robot = 2, -1 }},
		{"a robot's no more", func(s *api.State) { s.Robots[1].Job = 0 }},
		{"a job that there is not", func(s *api.State) { s.Robots[1].Job, s.Jobs[2].Robot = 6, -1 }},
		{"a job below 0", func(s *api.State) { s.Robots[1].Job, s.Jobs[2].Robot = -1, -1 }},
		{"a job that nobody does", func(s *api.State) { s.Robots[1].Job, s.Jobs[2].Robot = 3, -1 }},
		{"a load without a job", func(s *api.State) { s.Robots[0].Job, s.Jobs[0].Robot = 0, -1 }},
		{"a load of another job", func(s *api.State) { s.Robots[0].Load, s.Stacks[5].Bins = 8, []int{7, 9} }},
		{"a load, no job's bin", func(s *api.State) { s.Robots[1].Load, s.Stacks[6].Bins = 2, []int{1, 3} }},
	})
}

// P16.2: holds that meet, and a robot that is Out and whose turn it is not.
func TestCheckHolds(t *testing.T) {
	c := bare(4, 3, 1, 1)
	c.Robots = []api.Pose{flat(0, 0), flat(2, 2)}
	run := func(from, to api.Pose, dir, n, at int) api.Move {
		m := api.Move{Kind: api.Run, Dir: dir, N: n, From: from, To: to, At: at}
		m.End = at + lasts(c, m)
		return m
	}
	// Robot 0 to the east, over the cells at 2, 0 and 3, 0; robot 1 to the north, there.
	east := func(at int) []api.Move { return []api.Move{run(flat(0, 0), flat(2, 0), api.East, 2, at)} }
	through := func(from, to int) []api.Move {
		out := run(flat(2, 2), flat(2, 0), api.North, 2, from)
		return []api.Move{out, run(flat(2, 0), flat(2, 2), api.South, 2, to)}
	}
	long := lasts(c, east(0)[0])
	with := func(a, b []api.Move, outA, outB bool) func(s *api.State) {
		return func(s *api.State) {
			s.Robots[0].Moves, s.Robots[0].Out, s.Robots[1].Moves, s.Robots[1].Out = a, outA, b, outB
		}
	}
	each(t, c, plainFirst(c), true, []turned{
		{"behind it, touching", with(east(2*long), through(0, long), false, true)},
		{"in its turn, neither Out", with(east(2*long), through(0, long), false, false)},
		{"early, but on cells of its own", with(nil, through(5, 5+long), false, true)},
	})
	each(t, c, plainFirst(c), false, []turned{
		{"at one pose", func(s *api.State) { s.Robots[1].At = flat(0, 0) }},
		{"with a cell in common", func(s *api.State) { s.Robots[1].At = flat(1, 0) }},
		{"crossing in its second cell", func(s *api.State) { s.Robots[1].At = down(1, 0) }},
		{"a tick too early", with(east(2*long-1), through(0, long), false, true)},
		{"at the same time", with(east(0), through(0, long), false, false)},
		{"not its turn", with(east(2*long), through(0, long), true, false)},
		{"not the turn of one of two", with(east(2*long), through(0, long), true, true)},
	})
	// A robot stands in the way for ever.
	each(t, c, plainFirst(c), false, []turned{{"over one that stands", func(s *api.State) {
		s.Robots[1].At = flat(2, 0)
		s.Robots[0].Moves = []api.Move{run(flat(0, 0), flat(1, 0), api.East, 1, 9)}
	}}})
}
