package book_test

import (
	"math"
	"slices"
	"testing"

	"skep/api"
	"skep/book"
	"skep/dig"
	"skep/grid"
)

// chance is numbers that look like any, the same at each run.
type chance uint64

func (c *chance) below(n int) int {
	*c = *c*6364136223846793005 + 1442695040888963407
	return int(uint64(*c)>>33) % n
}

// ends is numbers near the ends of their range, and near powers of two.
func ends() []int {
	out := []int{math.MinInt, math.MinInt + 1, math.MaxInt - 1, math.MaxInt}
	for _, i := range []int{8, 16, 31, 32, 40, 61, 62} {
		out = append(out, 1<<i, 1<<i+1, -1<<i, -1<<i-1)
	}
	return out
}

func at(x, y int) api.Cell { return api.Cell{X: x, Y: y} }

// pile is a stack.
func pile(x, y int, bins ...int) api.Stack { return api.Stack{At: at(x, y), Bins: bins} }

// bare is a config of nothing but cells.
func bare(w, h, height, queue int) api.Conf {
	return api.Conf{W: w, H: h, Height: height, Unit: 10, Accel: 2, Speed: 4, Turn: 5, Hoist: 6, Queue: queue, Resend: 20, Budget: 500}
}

// three is a config with three ports, not in the order of their cells:
//
//	1 s s 0 s 2
//	s s s # s s
//	h h s s h h
func three() api.Conf {
	c := bare(6, 3, 3, 2)
	c.Blocked = []api.Cell{at(3, 1)}
	c.Ports = []api.Cell{at(3, 0), at(0, 0), at(5, 0)}
	c.Robots = []api.Pose{{At: at(0, 2)}, {At: at(4, 2)}}
	c.Stacks = []api.Stack{pile(2, 1, 7, 8, 9), pile(1, 1, 4, 5, 6), pile(4, 1, 1, 2, 3), pile(1, 0, 10), pile(2, 2, 11, 12)}
	return c
}

// fresh is the state at a config's beginning.
func fresh(c api.Conf) api.State {
	s := api.State{NextOrder: 1, NextJob: 1, Ports: make([]api.Port, len(c.Ports))}
	g, _ := grid.New(c)
	for cell := range g.Stacks() {
		l := api.Stack{At: cell}
		for _, given := range c.Stacks {
			if given.At == cell {
				l.Bins = slices.Clone(given.Bins)
			}
		}
		s.Stacks = append(s.Stacks, l)
	}
	for _, p := range c.Robots {
		s.Robots = append(s.Robots, api.Robot{At: p})
	}
	return s
}

// order adds one to a state, with its place at the port.
func order(s *api.State, bin, port, state int) {
	id := s.NextOrder
	s.NextOrder++
	s.Orders = append(s.Orders, api.Order{ID: id, Bin: bin, Port: port, State: state})
	switch state {
	case api.Waiting:
		s.Ports[port].Queue = append(s.Ports[port].Queue, id)
	case api.Active:
		s.Ports[port].Active = id
	}
}

// jobOf adds one that nobody does to a state.
func jobOf(s *api.State, kind, of, bin int, from, to api.Cell) {
	s.Jobs = append(s.Jobs, api.Job{ID: s.NextJob, Kind: kind, Order: of, Bin: bin, From: from, To: to, Robot: -1})
	s.NextJob++
}

// take takes a bin out of wherever it is.
func take(s *api.State, bin int) {
	for i, l := range s.Stacks {
		s.Stacks[i].Bins = slices.DeleteFunc(slices.Clone(l.Bins), func(b int) bool { return b == bin })
	}
	for i := range s.Ports {
		if s.Ports[i].Bin == bin {
			s.Ports[i].Bin = 0
		}
	}
	for i := range s.Robots {
		if s.Robots[i].Load == bin {
			s.Robots[i].Load = 0
		}
	}
}

// toPort puts a bin at a port.
func toPort(s *api.State, bin, port int) {
	take(s, bin)
	s.Ports[port].Bin = bin
}

// toRobot puts a bin on a robot, with the job by which it came there.
func toRobot(s *api.State, bin, robot int, from, to api.Cell) {
	take(s, bin)
	jobOf(s, api.Return, 0, bin, from, to)
	s.Jobs[len(s.Jobs)-1].Robot = robot
	s.Robots[robot].Load, s.Robots[robot].Job = bin, s.NextJob-1
}

// toStack puts a bin on a stack.
func toStack(s *api.State, bin int, cell api.Cell) {
	take(s, bin)
	for i, l := range s.Stacks {
		if l.At == cell {
			s.Stacks[i].Bins = append(slices.Clone(l.Bins), bin)
		}
	}
}

// away, fetch and again are jobs, as they are told.
func away(bin int, from, to api.Cell) api.Job {
	return api.Job{Kind: 1, Bin: bin, From: from, To: to, Robot: -1}
}

func fetch(bin int, from, to api.Cell) api.Job {
	return api.Job{Kind: 2, Bin: bin, From: from, To: to, Robot: -1}
}

func again(bin int, from, to api.Cell) api.Job {
	return api.Job{Kind: 3, Bin: bin, From: from, To: to, Robot: -1}
}

// admits fails unless Admit answers just this.
func admits(t *testing.T, c api.Conf, s api.State, bin, port, want int, e api.Errno) {
	t.Helper()
	if got, ge := book.Admit(c, s, bin, port); got != want || ge != e {
		t.Fatalf("Admit of %d, %d: %d, error %d; want %d, error %d; in\n%+v\n%+v", bin, port, got, ge, want, e, c, s)
	}
}

// nextIs fails unless Next answers just this, with true; of the order 0 none and false.
func nextIs(t *testing.T, c api.Conf, s api.State, want int, jobs ...api.Job) {
	t.Helper()
	if got, l, ok := book.Next(c, s); got != want || ok != (want != 0) || !slices.Equal(l, jobs) {
		t.Fatalf("Next: %d, %v, %v; want %d, %v; in\n%+v\n%+v", got, l, ok, want, jobs, c, s)
	}
}

// drains fails unless Drain answers just this.
func drains(t *testing.T, c api.Conf, s api.State, port int, want api.Job, e api.Errno) {
	t.Helper()
	if got, ge := book.Drain(c, s, port); got != want || ge != e {
		t.Fatalf("Drain of %d: %v, error %d; want %v, error %d; in\n%+v\n%+v", port, got, ge, want, e, c, s)
	}
}

// plainAdmit is what Admit must answer, by the chapter's words.
func plainAdmit(c api.Conf, s api.State, bin, port int) (int, api.Errno) {
	stack, elsewhere, double := false, false, false
	for _, l := range s.Stacks {
		for _, b := range l.Bins {
			stack = stack || b == bin
		}
	}
	for _, p := range s.Ports {
		elsewhere = elsewhere || p.Bin != 0 && p.Bin == bin
	}
	for _, r := range s.Robots {
		elsewhere = elsewhere || r.Load != 0 && r.Load == bin
	}
	waiting, active := make([]int, len(c.Ports)), make([]int, len(c.Ports))
	for _, o := range s.Orders {
		switch o.State {
		case api.Waiting:
			waiting[o.Port]++
		case api.Active:
			active[o.Port]++
		}
		double = double || o.Bin == bin && o.State != api.Delivered
	}
	switch {
	case s.Held:
		return 0, api.ErrHeld
	case !stack && !elsewhere:
		return 0, api.ErrBin
	case port < -1 || port >= len(c.Ports) || port == -1 && len(c.Ports) == 0:
		return 0, api.ErrPort
	case double:
		return 0, api.ErrDouble
	case !stack:
		return 0, api.ErrOut
	case s.NextOrder > 4096:
		return 0, api.ErrFull
	case port >= 0 && waiting[port] == c.Queue:
		return 0, api.ErrFull
	case port >= 0:
		return port, api.OK
	}
	for n := range c.Queue + 1 {
		for p := range c.Ports {
			if waiting[p] < c.Queue && waiting[p]+active[p] == n {
				return p, api.OK
			}
		}
	}
	return 0, api.ErrFull
}

// plainTouched is what Touched must answer, by the chapter's words.
func plainTouched(s api.State) []api.Cell {
	var out []api.Cell
	for _, j := range s.Jobs {
		if !slices.Contains(out, j.From) {
			out = append(out, j.From)
		}
		if !slices.Contains(out, j.To) {
			out = append(out, j.To)
		}
	}
	return out
}

// plainNext is what Next must answer, by the chapter's words, and with which error of dig's Jobs ports were passed over.
func plainNext(c api.Conf, s api.State) (id int, jobs []api.Job, passed []api.Errno) {
	for p, cell := range c.Ports {
		may := s.Ports[p].Active == 0 && s.Ports[p].Bin == 0 && len(s.Ports[p].Queue) > 0
		for _, j := range s.Jobs {
			may = may && j.From != cell && j.To != cell
		}
		if !may {
			continue
		}
		o := s.Orders[s.Ports[p].Queue[0]-1]
		l, e := dig.Jobs(c, s.Stacks, plainTouched(s), o.Bin, cell)
		if e == api.OK {
			return o.ID, l, passed
		}
		passed = append(passed, e)
	}
	return 0, nil, passed
}

// plainDrain is what Drain must answer, by the chapter's words.
func plainDrain(c api.Conf, s api.State, port int) (api.Job, api.Errno) {
	if s.Held {
		return api.Job{}, api.ErrHeld
	}
	if port < 0 || port >= len(c.Ports) {
		return api.Job{}, api.ErrPort
	}
	if s.Ports[port].Bin == 0 {
		return api.Job{}, api.ErrNone
	}
	for _, j := range s.Jobs {
		if j.From == c.Ports[port] {
			return api.Job{}, api.ErrState
		}
	}
	if s.Ports[port].Active != 0 {
		return api.Job{}, api.ErrState
	}
	to, e := dig.Place(c, s.Stacks, plainTouched(s), c.Ports[port])
	if e != api.OK {
		return api.Job{}, api.ErrRoom
	}
	return api.Job{Kind: 4, Bin: s.Ports[port].Bin, From: c.Ports[port], To: to, Robot: -1}, api.OK
}

// plainReady is what Ready must tell, by the chapter's words.
func plainReady(s api.State) []api.Job {
	var out []api.Job
	for i, j := range s.Jobs {
		free := j.Robot == -1
		for _, a := range s.Jobs[:i] {
			if a.From == j.From || a.From == j.To || a.To == j.From || a.To == j.To {
				free = false
			}
		}
		if free {
			out = append(out, j)
		}
	}
	return out
}

// ready is the first jobs that Ready tells, at most so many.
func ready(s api.State, most int) []api.Job {
	var out []api.Job
	for j := range book.Ready(s) {
		out = append(out, j)
		if len(out) == most {
			break
		}
	}
	return out
}
