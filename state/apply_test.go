package state_test

import (
	"testing"

	"skep/api"
)

// turns fails unless an event turns a state into just what is said of it (Seq one more besides).
func turns(t *testing.T, c api.Conf, s api.State, e api.Event, turn func(n *api.State)) api.State {
	t.Helper()
	want := nilled(s)
	want.Seq++
	turn(&want)
	applies(t, c, s, e, want, api.OK)
	takes(t, c, s, e)
	return want
}

// but is a state of which something is turned.
func but(s api.State, turn func(s *api.State)) api.State {
	n := nilled(s)
	turn(&n)
	return n
}

// P16.4: EvOrder: behind the queue and the orders, at one port and another; nothing else is turned.
func TestOrder(t *testing.T) {
	c := three()
	s := turns(t, c, plainFirst(c), evOrder(7, 2), func(n *api.State) {
		n.Orders, n.NextOrder = []api.Order{{ID: 1, Bin: 7, Port: 2}}, 2
		n.Ports[2].Queue = []int{1}
	})
	s = turns(t, c, s, evOrder(12, 0), func(n *api.State) {
		n.Orders, n.NextOrder = append(n.Orders, api.Order{ID: 2, Bin: 12, Port: 0}), 3
		n.Ports[0].Queue = []int{2}
	})
	s = turns(t, c, s, evOrder(4, 2), func(n *api.State) {
		n.Orders, n.NextOrder = append(n.Orders, api.Order{ID: 3, Bin: 4, Port: 2}), 4
		n.Ports[2].Queue = []int{1, 3}
	})
	// A bin that was delivered and brought back is asked for once more.
	s.Orders[0].State, s.Ports[2].Queue = api.Delivered, []int{3}
	turns(t, c, s, evOrder(7, 2), func(n *api.State) {
		n.Orders, n.NextOrder = append(n.Orders, api.Order{ID: 4, Bin: 7, Port: 2}), 5
		n.Ports[2].Queue = []int{3, 4}
	})
}

// P16.4: EvOrder's errors: Admit's, and ErrPort of -1 behind these.
func TestOrderRefused(t *testing.T) {
	c, s := three(), busy(t)
	for _, port := range []int{-1, 0, 1, 2} {
		refuses(t, c, held(t), evOrder(7, port), api.ErrHeld)
		refuses(t, c, s, evOrder(13, port), api.ErrBin)
		refuses(t, c, s, evOrder(0, port), api.ErrBin)
		refuses(t, c, s, evOrder(6, port), api.ErrDouble)
		refuses(t, c, s, evOrder(8, port), api.ErrDouble)
		refuses(t, c, s, evOrder(10, port), api.ErrOut)
		refuses(t, c, s, evOrder(9, port), api.ErrOut)
	}
	for _, port := range append(ends(), -2, 3) {
		refuses(t, c, s, evOrder(7, port), api.ErrPort)
		refuses(t, c, s, evOrder(6, port), api.ErrPort)
		refuses(t, c, s, evOrder(13, port), api.ErrBin)
	}
	refuses(t, c, s, evOrder(7, -1), api.ErrPort)
	refuses(t, c, s, evOrder(7, 0), api.ErrFull)
	// All queues are full: of -1 that is told ahead of the port.
	full := goes(t, c, plainFirst(c), evOrder(1, 0), evOrder(2, 0), evOrder(3, 1), evOrder(4, 1), evOrder(5, 2), evOrder(6, 2))
	for _, port := range []int{-1, 0, 1, 2} {
		refuses(t, c, full, evOrder(7, port), api.ErrFull)
	}
	many := but(plainFirst(c), func(s *api.State) {
		for i := range api.MaxOrders {
			s.Orders = append(s.Orders, api.Order{ID: i + 1, Bin: 7, State: api.Delivered})
		}
		s.NextOrder = api.MaxOrders + 1
	})
	refuses(t, c, many, evOrder(7, 0), api.ErrFull)
	refuses(t, c, many, evOrder(7, -1), api.ErrFull)
	many.Orders, many.NextOrder = many.Orders[1:], api.MaxOrders
	for i := range many.Orders {
		many.Orders[i].ID = i + 1
	}
	turns(t, c, many, evOrder(7, 1), func(n *api.State) {
		n.Orders, n.NextOrder = append(n.Orders, api.Order{ID: api.MaxOrders, Bin: 7, Port: 1}), api.MaxOrders+1
		n.Ports[1].Queue = []int{api.MaxOrders}
	})
}

// P16.4: EvBegin: it is active, the first of the queue no more, its jobs behind the others; one job, several, with Back.
func TestBegin(t *testing.T) {
	c := three()
	c.Back = true
	s := goes(t, c, plainFirst(c), evOrder(8, 0), evOrder(12, 0), evOrder(3, 2))
	s = turns(t, c, s, evBegin(1), func(n *api.State) {
		n.Orders[0].State = api.Active
		n.Ports[0].Active, n.Ports[0].Queue = 1, []int{2}
		n.Jobs, n.NextJob = []api.Job{
			{ID: 1, Kind: api.Away, Order: 1, Bin: 9, From: at(2, 1), To: at(2, 0), Robot: -1},
			{ID: 2, Kind: api.Fetch, Order: 1, Bin: 8, From: at(2, 1), To: at(3, 0), Robot: -1},
			{ID: 3, Kind: api.Again, Order: 1, Bin: 9, From: at(2, 0), To: at(2, 1), Robot: -1},
		}, 4
	})
	s = turns(t, c, s, evBegin(3), func(n *api.State) {
		n.Orders[2].State = api.Active
		n.Ports[2].Active, n.Ports[2].Queue = 3, nil
		n.Jobs, n.NextJob = append(n.Jobs, api.Job{ID: 4, Kind: api.Fetch, Order: 3, Bin: 3, From: at(4, 1), To: at(5, 0), Robot: -1}), 5
	})
	refuses(t, c, s, evBegin(2), api.ErrState)
	// A hive that is held may begin one: nobody moves by that.
	s = goes(t, c, plainFirst(c), evOrder(12, 1), evStop())
	turns(t, c, s, evBegin(1), func(n *api.State) {
		n.Orders[0].State = api.Active
		n.Ports[1].Active, n.Ports[1].Queue = 1, nil
		n.Jobs, n.NextJob = []api.Job{{ID: 1, Kind: api.Fetch, Order: 1, Bin: 12, From: at(2, 2), To: at(0, 0), Robot: -1}}, 2
	})
}

// P16.4: EvBegin's errors: no such order, not just the one that Next tells, IDs of jobs at 2^40.
func TestBeginRefused(t *testing.T) {
	c := three()
	s := goes(t, c, plainFirst(c), evOrder(8, 1), evOrder(12, 1), evOrder(3, 2))
	for _, id := range append(ends(), -1, 0, 4) {
		refuses(t, c, s, evBegin(id), api.ErrArg)
		refuses(t, c, plainFirst(c), evBegin(id), api.ErrArg)
	}
	// 2 is not the first of its queue, 3 could be begun but is not the next.
	refuses(t, c, s, evBegin(2), api.ErrState)
	refuses(t, c, s, evBegin(3), api.ErrState)
	b := busy(t)
	for id := range 5 {
		refuses(t, c, b, evBegin(id+1), api.ErrState)
	}
	// Of two jobs the last may have the ID 2^40 - 1.
	jobs := func(next int) api.State { return but(s, func(s *api.State) { s.NextJob = next }) }
	n := takes(t, c, jobs(most-2), evBegin(1))
	if n.NextJob != most || n.Jobs[0].ID != most-2 || n.Jobs[1].ID != most-1 {
		t.Errorf("%+v", n)
	}
	refuses(t, c, jobs(most-1), evBegin(1), api.ErrFull)
	refuses(t, c, jobs(most), evBegin(1), api.ErrFull)
	refuses(t, c, jobs(most), evBegin(2), api.ErrState)
	refuses(t, c, jobs(most), evBegin(4), api.ErrArg)
}

// P16.4: EvDrain: the job behind the others, the bin stays; and its errors.
func TestDrain(t *testing.T) {
	c := three()
	s := but(busy(t), func(s *api.State) { s.Jobs = s.Jobs[:3] })
	turns(t, c, s, evDrain(1), func(n *api.State) {
		n.Jobs, n.NextJob = append(n.Jobs, api.Job{ID: 6, Kind: api.Return, Bin: 10, From: at(0, 0), To: at(1, 0), Robot: -1}), 7
	})
	refuses(t, c, held(t), evDrain(1), api.ErrHeld)
	refuses(t, c, held(t), evDrain(9), api.ErrHeld)
	for _, port := range append(ends(), -1, 3) {
		refuses(t, c, s, evDrain(port), api.ErrPort)
	}
	refuses(t, c, s, evDrain(0), api.ErrNone)
	refuses(t, c, busy(t), evDrain(1), api.ErrState)
	jobs := func(next int) api.State { return but(s, func(s *api.State) { s.NextJob = next }) }
	if n := takes(t, c, jobs(most-1), evDrain(1)); n.NextJob != most || n.Jobs[3].ID != most-1 {
		t.Errorf("%+v", n)
	}
	refuses(t, c, jobs(most), evDrain(1), api.ErrFull)
	refuses(t, c, jobs(most), evDrain(0), api.ErrNone)
	// No room: of the two stack cells one is full, at the other somebody works.
	c = bare(3, 2, 1, 1)
	c.Ports, c.Robots = []api.Cell{at(0, 0)}, []api.Pose{down(1, 0)}
	c.Stacks = []api.Stack{pile(2, 0, 2), pile(0, 1, 3)}
	s = but(plainFirst(c), func(s *api.State) { s.Ports[0].Bin, s.Stacks[0].Bins = 2, nil })
	takes(t, c, s, evDrain(0))
	refuses(t, c, but(s, func(s *api.State) {
		s.Jobs, s.NextJob = []api.Job{{ID: 1, Kind: api.Return, Bin: 3, From: at(0, 1), To: at(2, 0), Robot: -1}}, 2
	}), evDrain(0), api.ErrRoom)
}

// P16.4: a kind that there is not, robots that there are not: ErrArg, ahead of ErrFull, ahead of the event's own errors.
func TestArguments(t *testing.T) {
	c := three()
	kinds := append(ends(), -1, 0, 10, 11)
	robots := append(ends(), -1, 2, 3)
	for _, s := range []api.State{plainFirst(c), busy(t), held(t), but(held(t), func(s *api.State) { s.Seq = most })} {
		for _, kind := range kinds {
			for _, a := range []int{0, 1, 7} {
				refuses(t, c, s, api.Event{Kind: kind, A: a, B: 0, Pose: flat(0, 2)}, api.ErrArg)
			}
		}
		for _, robot := range robots {
			for _, kind := range []int{api.EvPlan, api.EvGo, api.EvDone, api.EvHalt} {
				refuses(t, c, s, api.Event{Kind: kind, A: robot}, api.ErrArg)
			}
		}
		for _, id := range append(ends(), -1, 0, 6) {
			refuses(t, c, s, evBegin(id), api.ErrArg)
		}
	}
	without := bare(2, 2, 1, 1)
	for _, kind := range []int{api.EvPlan, api.EvGo, api.EvDone, api.EvHalt} {
		refuses(t, without, plainFirst(without), api.Event{Kind: kind}, api.ErrArg)
	}
}

// P16.4: Seq at 2^40: ErrFull, ahead of what each event would tell of its own; one below: it becomes 2^40.
func TestSeqIsFull(t *testing.T) {
	c := three()
	for _, s := range []api.State{busy(t), held(t), plainFirst(c)} {
		s.Seq = most
		for _, e := range []api.Event{evOrder(7, 1), evOrder(13, 1), evOrder(7, -1), evPlan(0, 0, nil), evGo(1), evGo(0), evDone(1), evDone(0), evDrain(0), evDrain(7), evStop(), evHalt(1, 0, flat(0, 0)), evResume()} {
			refuses(t, c, s, e, api.ErrFull)
		}
		if len(s.Orders) > 0 {
			refuses(t, c, s, evBegin(1), api.ErrFull)
		}
		s.Seq--
		if n := takes(t, c, s, evStop()); n.Seq != most {
			t.Error(n.Seq)
		}
		refuses(t, c, s, evDrain(7), map[bool]api.Errno{true: api.ErrHeld, false: api.ErrPort}[s.Held])
	}
}

// P16.4: what an event does not use is not looked at.
func TestOtherFieldsAreTaken(t *testing.T) {
	c := three()
	odd := func(e api.Event) api.Event {
		e.Pose, e.Moves = flat(-9, 1<<50), []api.Move{{Kind: 77}}
		return e
	}
	s := plainFirst(c)
	for _, e := range []api.Event{evOrder(7, 0), evBegin(1), evStop()} {
		x := odd(e)
		if e.Kind != api.EvOrder {
			x.B = -5
		}
		if e.Kind == api.EvStop {
			x.A = -7
		}
		want := takes(t, c, s, e)
		applies(t, c, s, x, want, api.OK)
		s = want
	}
	for robot, p := range c.Robots {
		e := evHalt(robot, 0, p)
		want := takes(t, c, s, e)
		e.Moves = []api.Move{{Kind: 77}}
		applies(t, c, s, e, want, api.OK)
		s = want
	}
	e := evResume()
	want := takes(t, c, s, e)
	e.A, e.B = -1, 99
	applies(t, c, s, odd(e), want, api.OK)
}
