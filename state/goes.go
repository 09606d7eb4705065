package state

import "skep/api"

// start gives a robot the go-ahead for its next move.
func (h hall) start(s api.State, robot int) (api.State, api.Errno) {
	r := s.Robots[robot]
	switch {
	case s.Held:
		return api.State{}, api.ErrHeld
	case r.Out || !h.hasTurn(s.Robots, robot):
		return api.State{}, api.ErrState
	case r.Num >= top:
		return api.State{}, api.ErrFull
	}
	r.Out = true
	r.Num++
	s.Robots = with(s.Robots, robot, r)
	return s, api.OK
}

// done is what follows once a robot has told that it did its move.
func (h hall) done(s api.State, robot int) (api.State, api.Errno) {
	if s.Held {
		return api.State{}, api.ErrHeld
	}
	return h.do(s, robot)
}

// stop holds the hive: nobody is to begin anything, and who has begun a move may end it.
func stop(s api.State) (api.State, api.Errno) {
	if s.Epoch >= top {
		return api.State{}, api.ErrFull
	}
	s.Epoch++
	s.Held = true
	s.Robots = own(s.Robots)
	for i, r := range s.Robots {
		left := 0
		if r.Out {
			left = min(1, len(r.Moves))
		}
		s.Robots[i].Moves, s.Robots[i].Stands = r.Moves[:left], false
	}
	return s, api.OK
}

// halt takes a robot at its word that it stands somewhere, if that can be.
func (h hall) halt(s api.State, e api.Event) (api.State, api.Errno) {
	r := s.Robots[e.A]
	if !s.Held || r.Stands {
		return api.State{}, api.ErrState
	}
	if e.B != r.Load || !h.passes(r, e.Pose) {
		var ok bool
		if s, ok = h.hoisted(s, e); !ok {
			return api.State{}, api.ErrState
		}
		r = s.Robots[e.A]
	}
	r.At, r.Moves, r.Out, r.Num, r.Stands = e.Pose, nil, false, 0, true
	s.Robots = with(s.Robots, e.A, r)
	return s, api.OK
}

// passes tells whether a robot stands at a pose, or comes by there with the move that it is Out for.
func (h hall) passes(r api.Robot, p api.Pose) bool {
	if p == r.At {
		return true
	}
	if !r.Out || len(r.Moves) == 0 {
		return false
	}
	m := r.Moves[0]
	if m.Kind == api.Turn {
		return p == m.From || p == m.To
	}
	// Of a lift and a drop N is 0.
	for n := 1; n <= m.N; n++ {
		at, ok := h.g.Shift(m.From, m.Dir, n)
		if !ok {
			return false
		}
		if at == p {
			return true
		}
	}
	return false
}

// hoisted is the state behind the lift or drop that a robot is Out for; false, if it cannot be done, or does not lead to what is told.
func (h hall) hoisted(s api.State, e api.Event) (api.State, bool) {
	r := s.Robots[e.A]
	if len(r.Moves) == 0 || len(stops(r.Moves[:1])) == 0 || e.Pose != r.At {
		return api.State{}, false
	}
	s, f := h.do(s, e.A)
	if f != api.OK || s.Robots[e.A].Load != e.B {
		return api.State{}, false
	}
	return s, true
}

// resume lets a hive go on in which all stand.
func resume(s api.State) (api.State, api.Errno) {
	if !s.Held {
		return api.State{}, api.ErrState
	}
	s.Held = false
	s.Robots = own(s.Robots)
	for i, r := range s.Robots {
		if !r.Stands {
			return api.State{}, api.ErrState
		}
		s.Robots[i].Stands = false
	}
	return s, api.OK
}

// do is the state in which a robot that is Out has done its first move, and is not Out any more.
func (h hall) do(s api.State, robot int) (api.State, api.Errno) {
	r := s.Robots[robot]
	if !r.Out || len(r.Moves) == 0 {
		return api.State{}, api.ErrState
	}
	m := r.Moves[0]
	r.At, r.Moves, r.Out = m.To, r.Moves[1:], false
	s.Robots = with(s.Robots, robot, r)
	switch m.Kind {
	case api.Lift:
		return h.lift(s, robot, m.From.At)
	case api.Drop:
		return h.drop(s, robot, m.From.At)
	}
	return s, api.OK
}

// lift is the state in which a robot has its job's bin, which must stand highest at a cell.
func (h hall) lift(s api.State, robot int, at api.Cell) (api.State, api.Errno) {
	r := s.Robots[robot]
	j := jobAt(s.Jobs, r.Job)
	if j < 0 {
		return api.State{}, api.ErrState
	}
	r.Load = s.Jobs[j].Bin
	s.Robots = with(s.Robots, robot, r)
	return h.take(s, at, r.Load)
}

// drop is the state in which a robot's load stands highest at a cell, and its job is over.
func (h hall) drop(s api.State, robot int, at api.Cell) (api.State, api.Errno) {
	r := s.Robots[robot]
	j := jobAt(s.Jobs, r.Job)
	if j < 0 || r.Load == 0 {
		return api.State{}, api.ErrState
	}
	job := s.Jobs[j]
	s, e := h.put(s, at, r.Load)
	if e != api.OK {
		return api.State{}, e
	}
	r.Load, r.Job = 0, 0
	s.Robots = with(s.Robots, robot, r)
	s.Jobs = without(s.Jobs, j)
	if job.Kind == api.Fetch {
		s = deliver(s, job.Order)
	}
	return s, api.OK
}

// take is the state in which a bin that stood highest at a cell is there no more.
func (h hall) take(s api.State, at api.Cell, bin int) (api.State, api.Errno) {
	if p, ok := h.portAt(s, at); ok && s.Ports[p].Bin == bin {
		port := s.Ports[p]
		port.Bin = 0
		s.Ports = with(s.Ports, p, port)
		return s, api.OK
	}
	i := stackAt(s.Stacks, at)
	if i < 0 {
		return api.State{}, api.ErrState
	}
	l := s.Stacks[i]
	n := len(l.Bins) - 1
	if n < 0 || l.Bins[n] != bin {
		return api.State{}, api.ErrState
	}
	l.Bins = l.Bins[:n]
	s.Stacks = with(s.Stacks, i, l)
	return s, api.OK
}

// put is the state in which a bin stands highest at a cell.
func (h hall) put(s api.State, at api.Cell, bin int) (api.State, api.Errno) {
	if p, ok := h.portAt(s, at); ok && s.Ports[p].Bin == 0 {
		port := s.Ports[p]
		port.Bin = bin
		s.Ports = with(s.Ports, p, port)
		return s, api.OK
	}
	i := stackAt(s.Stacks, at)
	if i < 0 || len(s.Stacks[i].Bins) >= h.c.Height {
		return api.State{}, api.ErrState
	}
	l := s.Stacks[i]
	l.Bins = behind(l.Bins, bin)
	s.Stacks = with(s.Stacks, i, l)
	return s, api.OK
}

// portAt is the number of the port at a cell; false, if there is none.
func (h hall) portAt(s api.State, at api.Cell) (int, bool) {
	p := h.g.Port(at)
	return p, p >= 0 && p < len(s.Ports)
}

// deliver closes the order whose bin has come to its port.
func deliver(s api.State, id int) api.State {
	for i, o := range s.Orders {
		if o.ID == id {
			o.State = api.Delivered
			s.Orders = with(s.Orders, i, o)
		}
	}
	for i, p := range s.Ports {
		if p.Active == id {
			p.Active = 0
			s.Ports = with(s.Ports, i, p)
		}
	}
	return s
}
