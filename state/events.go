package state

import (
	"slices"

	"skep/api"
	"skep/book"
	"skep/plan"
)

// turn is the state behind an event; it may share lists with what was handed in.
func (h hall) turn(s api.State, e api.Event) (api.State, api.Errno) {
	if !names(s, e) {
		return api.State{}, api.ErrArg
	}
	if s.Seq >= top {
		return api.State{}, api.ErrFull
	}
	next, f := h.happen(s, e)
	if f != api.OK {
		return api.State{}, f
	}
	next.Seq++
	return next, api.OK
}

// names tells whether there is such a kind of event, and the robot or order that it is of.
func names(s api.State, e api.Event) bool {
	switch e.Kind {
	case api.EvOrder, api.EvDrain, api.EvStop, api.EvResume:
		return true
	case api.EvBegin:
		return orderAt(s.Orders, e.A) >= 0
	case api.EvPlan, api.EvGo, api.EvDone, api.EvHalt:
		return there(s, e.A)
	}
	return false
}

// happen is what an event turns, but for Seq.
func (h hall) happen(s api.State, e api.Event) (api.State, api.Errno) {
	switch e.Kind {
	case api.EvOrder:
		return h.order(s, e.A, e.B)
	case api.EvBegin:
		return h.begin(s, e.A)
	case api.EvPlan:
		return h.plan(s, e.A, e.B, e.Moves)
	case api.EvGo:
		return h.start(s, e.A)
	case api.EvDone:
		return h.done(s, e.A)
	case api.EvDrain:
		return h.drain(s, e.A)
	case api.EvStop:
		return stop(s)
	case api.EvHalt:
		return h.halt(s, e)
	}
	return resume(s)
}

// order takes an order for a bin at a port.
func (h hall) order(s api.State, bin, port int) (api.State, api.Errno) {
	at, e := book.Admit(h.c, s, bin, port)
	if e != api.OK {
		return api.State{}, e
	}
	if port == anyPort {
		return api.State{}, api.ErrPort
	}
	id := s.NextOrder
	p := s.Ports[at]
	p.Queue = behind(p.Queue, id)
	s.Ports = with(s.Ports, at, p)
	s.Orders = behind(s.Orders, api.Order{ID: id, Bin: bin, Port: at, State: api.Waiting})
	s.NextOrder++
	return s, api.OK
}

// begin makes the order that is next active, and its jobs known.
func (h hall) begin(s api.State, id int) (api.State, api.Errno) {
	next, jobs, ok := book.Next(h.c, s)
	if !ok || next != id {
		return api.State{}, api.ErrState
	}
	if s.NextJob > top-len(jobs) {
		return api.State{}, api.ErrFull
	}
	for i := range jobs {
		jobs[i].ID, jobs[i].Order = s.NextJob+i, id
	}
	s.Jobs = behind(s.Jobs, jobs...)
	s.NextJob += len(jobs)
	i := orderAt(s.Orders, id)
	o := s.Orders[i]
	o.State = api.Active
	s.Orders = with(s.Orders, i, o)
	// It is the first of the queue of a port, or it would not be next.
	at := slices.IndexFunc(s.Ports, func(p api.Port) bool { return len(p.Queue) > 0 && p.Queue[0] == id })
	p := s.Ports[at]
	p.Active, p.Queue = id, p.Queue[1:]
	s.Ports = with(s.Ports, at, p)
	return s, api.OK
}

// plan gives a robot moves, and the job for which they are, unless it has that already (0).
func (h hall) plan(s api.State, robot, job int, moves []api.Move) (api.State, api.Errno) {
	if s.Held {
		return api.State{}, api.ErrHeld
	}
	if len(s.Robots[robot].Moves) > 0 {
		return api.State{}, api.ErrState
	}
	if job != 0 {
		var ok bool
		if s, ok = takes(s, robot, job); !ok {
			return api.State{}, api.ErrState
		}
	}
	r := s.Robots[robot]
	if len(moves) == 0 || len(moves) > api.MaxMoves || !plan.Right(h.c, h.k, r.At, moves) || !slices.Equal(stops(moves), due(s.Jobs, r)) {
		return api.State{}, api.ErrState
	}
	r.Moves = moves
	s.Robots = with(s.Robots, robot, r)
	if !h.inOrder(s.Robots) {
		return api.State{}, api.ErrState
	}
	return s, api.OK
}

// takes gives a robot that has no job one that is ready; false, if that cannot be.
func takes(s api.State, robot, job int) (api.State, bool) {
	r := s.Robots[robot]
	if r.Job != 0 {
		return api.State{}, false
	}
	for j := range book.Ready(s) {
		if j.ID != job {
			continue
		}
		r.Job, j.Robot = job, robot
		s.Robots = with(s.Robots, robot, r)
		s.Jobs = with(s.Jobs, jobAt(s.Jobs, job), j)
		return s, true
	}
	return api.State{}, false
}

// stops is where moves lift and drop.
func stops(moves []api.Move) []plan.Stop {
	var out []plan.Stop
	for _, m := range moves {
		if m.Kind == api.Lift || m.Kind == api.Drop {
			out = append(out, plan.Stop{At: m.From.At, Kind: m.Kind})
		}
	}
	return out
}

// due is where a robot has to lift and drop.
func due(jobs []api.Job, r api.Robot) []plan.Stop {
	i := jobAt(jobs, r.Job)
	if i < 0 {
		return nil
	}
	out := []plan.Stop{{At: jobs[i].From, Kind: api.Lift}, {At: jobs[i].To, Kind: api.Drop}}
	if r.Load != 0 {
		return out[1:]
	}
	return out
}

// drain makes the job known by which a port's bin is brought back.
func (h hall) drain(s api.State, port int) (api.State, api.Errno) {
	j, e := book.Drain(h.c, s, port)
	if e != api.OK {
		return api.State{}, e
	}
	if s.NextJob >= top {
		return api.State{}, api.ErrFull
	}
	j.ID = s.NextJob
	s.Jobs = behind(s.Jobs, j)
	s.NextJob++
	return s, api.OK
}
