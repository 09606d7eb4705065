package book_test

import (
	"testing"

	"skep/api"
)

// back is the job by which a bin is brought back, as it is told.
func back(bin int, from, to api.Cell) api.Job {
	return api.Job{Kind: 4, Bin: bin, From: from, To: to, Robot: -1}
}

// served is a state of three in which each port has a bin.
func served() api.State {
	s := fresh(three())
	for p, bin := range []int{9, 12, 10} {
		toPort(&s, bin, p)
	}
	return s
}

// P15.4: Return of the port's bin, from the port to the nearest place; nothing else is told.
func TestDrain(t *testing.T) {
	c, s := three(), served()
	mayBe(t, c, s)
	drains(t, c, s, 0, back(9, at(3, 0), at(2, 0)), api.OK)
	drains(t, c, s, 1, back(12, at(0, 0), at(1, 0)), api.OK)
	drains(t, c, s, 2, back(10, at(5, 0), at(4, 0)), api.OK)
	// It is the same while other orders wait there, and whatever NextJob is.
	order(&s, 7, 0, api.Waiting)
	order(&s, 9, 0, api.Delivered)
	order(&s, 8, 1, api.Active)
	s.NextJob = 77
	mayBe(t, c, s)
	drains(t, c, s, 0, back(9, at(3, 0), at(2, 0)), api.OK)
	c.Back = true
	drains(t, c, s, 0, back(9, at(3, 0), at(2, 0)), api.OK)
}

// P15.4: a place has room, and nobody works at it, by Touched.
func TestDrainPlace(t *testing.T) {
	c, s := three(), served()
	for i, bin := range []int{1, 2, 3} {
		toStack(&s, bin, at(2, 0))
		mayBe(t, c, s)
		want := at(2, 0)
		if i == 2 {
			want = at(4, 0)
		}
		drains(t, c, s, 0, back(9, at(3, 0), want), api.OK)
	}
	for _, robot := range []int{-1, 1} {
		s = served()
		jobOf(&s, api.Return, 0, 8, at(4, 0), at(2, 0))
		jobOf(&s, api.Return, 0, 8, at(1, 0), at(2, 1))
		if robot >= 0 {
			s.Jobs[0].Robot, s.Robots[robot].Job = robot, 1
		}
		mayBe(t, c, s)
		drains(t, c, s, 0, back(9, at(3, 0), at(3, 2)), api.OK)
		drains(t, c, s, 1, back(12, at(0, 0), at(0, 1)), api.OK)
		drains(t, c, s, 2, back(10, at(5, 0), at(5, 1)), api.OK)
	}
}

// P15.4: ErrPort below 0, and from one too many on; -1 is no port here.
func TestDrainPorts(t *testing.T) {
	c, s := three(), served()
	for _, port := range append(ends(), -2, -1, 3, 4, 8) {
		drains(t, c, s, port, api.Job{}, api.ErrPort)
	}
	c.Ports = nil
	s = fresh(c)
	for port := -1; port < 2; port++ {
		drains(t, c, s, port, api.Job{}, api.ErrPort)
	}
}

// P15.4: each of the other errors, by itself, at each port.
func TestDrainErrors(t *testing.T) {
	c := three()
	for port, bin := range []int{9, 12, 10} {
		for _, x := range []struct {
			e    api.Errno
			turn func(s *api.State)
		}{
			{api.ErrHeld, func(s *api.State) { s.Held = true }},
			{api.ErrNone, func(s *api.State) { toStack(s, bin, at(3, 2)) }},
			{api.ErrState, func(s *api.State) { jobOf(s, api.Return, 0, bin, c.Ports[port], at(3, 2)) }},
			{api.ErrState, func(s *api.State) {
				jobOf(s, api.Return, 0, bin, c.Ports[port], at(3, 2))
				s.Jobs[0].Robot, s.Robots[1].Job = 1, 1
			}},
			{api.ErrState, func(s *api.State) { order(s, 7, port, api.Active) }},
			{api.ErrRoom, crowd},
		} {
			s := served()
			x.turn(&s)
			mayBe(t, c, s)
			drains(t, c, s, port, api.Job{}, x.e)
		}
	}
}

// crowd has somebody work at each stack cell of three.
func crowd(s *api.State) {
	for i, l := range s.Stacks {
		jobOf(s, api.Return, 0, 8, l.At, s.Stacks[(i+1)%len(s.Stacks)].At)
	}
}

// P15.4: the place may be the last that is left; ErrRoom, if somebody works there.
func TestDrainLastPlace(t *testing.T) {
	c := bare(3, 2, 2, 2)
	c.Ports = []api.Cell{at(0, 0)}
	c.Stacks = []api.Stack{pile(1, 0, 1, 2), pile(2, 0, 3, 4), pile(0, 1, 5, 6), pile(1, 1, 7, 8)}
	for _, l := range c.Stacks {
		s := fresh(c)
		bin := l.Bins[1]
		drains(t, c, s, 0, api.Job{}, api.ErrNone)
		toPort(&s, bin, 0)
		mayBe(t, c, s)
		drains(t, c, s, 0, back(bin, at(0, 0), l.At), api.OK)
		jobOf(&s, api.Return, 0, l.Bins[0], l.At, at(2, 1))
		mayBe(t, c, s)
		drains(t, c, s, 0, api.Job{}, api.ErrRoom)
		s.Jobs[0].From, s.Jobs[0].To = s.Jobs[0].To, s.Jobs[0].From
		mayBe(t, c, s)
		drains(t, c, s, 0, api.Job{}, api.ErrRoom)
	}
}

// P15.4: a job that leads to the port alone is no reason to refuse, nor is one that leads from another port.
func TestDrainWithJobsElsewhere(t *testing.T) {
	c, s := three(), served()
	jobOf(&s, api.Return, 0, 7, at(3, 2), at(3, 0))
	jobOf(&s, api.Return, 0, 12, at(0, 0), at(4, 0))
	order(&s, 8, 1, api.Active)
	mayBe(t, c, s)
	drains(t, c, s, 0, back(9, at(3, 0), at(2, 0)), api.OK)
	drains(t, c, s, 1, api.Job{}, api.ErrState)
	drains(t, c, s, 2, back(10, at(5, 0), at(5, 1)), api.OK)
}

// P15.4, R2: of several errors the first that the chapter names: all choices of causes.
func TestDrainFirstError(t *testing.T) {
	c := three()
	causes := []struct {
		e    api.Errno
		turn func(s *api.State)
	}{
		{api.ErrHeld, func(s *api.State) { s.Held = true }},
		{api.ErrPort, nil},
		{api.ErrNone, func(s *api.State) { toStack(s, 12, at(3, 2)) }},
		{api.ErrState, func(s *api.State) { jobOf(s, api.Return, 0, 12, at(0, 0), at(3, 2)) }},
		{api.ErrState, func(s *api.State) { order(s, 7, 1, api.Active) }},
		{api.ErrRoom, crowd},
	}
	for choice := range 1 << len(causes) {
		s, port, e := served(), 1, api.OK
		for i, x := range causes {
			if choice>>i&1 == 0 {
				continue
			}
			if x.turn != nil {
				x.turn(&s)
			} else {
				port = 3
			}
			if e == api.OK {
				e = x.e
			}
		}
		mayBe(t, c, s)
		want := api.Job{}
		if e == api.OK {
			want = back(12, at(0, 0), at(1, 0))
		}
		drains(t, c, s, port, want, e)
	}
}

// P15.4: the answers are those of the chapter's words done plainly, in states as luck has them.
func TestDrainByTheWords(t *testing.T) {
	var luck chance = 11
	count := map[api.Errno]int{}
	for range 30000 {
		c := drawConf(&luck)
		s := drawState(&luck, c)
		mayBe(t, c, s)
		for port := -1; port <= len(c.Ports); port++ {
			want, e := plainDrain(c, s, port)
			drains(t, c, s, port, want, e)
			count[e]++
		}
	}
	for _, e := range []api.Errno{api.OK, api.ErrHeld, api.ErrPort, api.ErrNone, api.ErrState, api.ErrRoom} {
		if count[e] < 100 {
			t.Errorf("error %d: %d times", e, count[e])
		}
	}
}
