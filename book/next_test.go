package book_test

import (
	"slices"
	"testing"

	"skep/api"
	"skep/book"
	"skep/dig"
)

// P15.3: what the jobs are: of a bin that lies high, in the midst, low.
func TestNext(t *testing.T) {
	c := three()
	from, port := at(2, 1), at(3, 0)
	for bin, want := range map[int][]api.Job{
		9: {fetch(9, from, port)},
		8: {away(9, from, at(2, 0)), fetch(8, from, port)},
		7: {away(9, from, at(2, 0)), away(8, from, at(2, 0)), fetch(7, from, port)},
	} {
		s := fresh(c)
		order(&s, 1, 2, api.Delivered)
		order(&s, bin, 0, api.Waiting)
		mayBe(t, c, s)
		nextIs(t, c, s, 2, want...)
	}
}

// P15.3: with Back the others are put back.
func TestNextBack(t *testing.T) {
	c := three()
	c.Back = true
	from, port := at(2, 1), at(5, 0)
	s := fresh(c)
	order(&s, 7, 2, api.Waiting)
	mayBe(t, c, s)
	nextIs(t, c, s, 1, away(9, from, at(2, 0)), away(8, from, at(2, 0)), fetch(7, from, port), again(8, at(2, 0), from), again(9, at(2, 0), from))
}

// P15.3: places are those that nobody works at, by Touched: neither what a job leads from nor what it leads to, with a robot or without.
func TestNextKeepsOffTouched(t *testing.T) {
	c := three()
	for _, robot := range []int{-1, 0} {
		s := fresh(c)
		order(&s, 8, 1, api.Waiting)
		order(&s, 10, 0, api.Active)
		jobOf(&s, api.Away, 2, 10, at(2, 0), at(1, 0))
		if robot >= 0 {
			s.Jobs[0].Robot, s.Robots[robot].Job = robot, 1
		}
		mayBe(t, c, s)
		// 2, 2 has room for one.
		nextIs(t, c, s, 1, away(9, at(2, 1), at(2, 2)), fetch(8, at(2, 1), at(0, 0)))
	}
}

// P15.3: none, where no port has a queue, or there are no ports.
func TestNextNone(t *testing.T) {
	c := three()
	s := fresh(c)
	nextIs(t, c, s, 0)
	order(&s, 7, 0, api.Delivered)
	order(&s, 8, 1, api.Active)
	mayBe(t, c, s)
	nextIs(t, c, s, 0)
	c.Ports = nil
	s = fresh(c)
	mayBe(t, c, s)
	nextIs(t, c, s, 0)
}

// P15.3: the lowest port, whichever order came first; of its queue the first, though a later one could be had.
func TestNextLowestPortFirstOrder(t *testing.T) {
	c := three()
	s := fresh(c)
	order(&s, 1, 2, api.Waiting)
	order(&s, 4, 1, api.Waiting)
	order(&s, 10, 1, api.Waiting)
	order(&s, 12, 2, api.Waiting)
	mayBe(t, c, s)
	nextIs(t, c, s, 2, away(6, at(1, 1), at(1, 0)), away(5, at(1, 1), at(1, 0)), fetch(4, at(1, 1), at(0, 0)))
	order(&s, 9, 0, api.Waiting)
	nextIs(t, c, s, 5, fetch(9, at(2, 1), at(3, 0)))
	// The first order's bin is worked at: the second one is not asked.
	s = fresh(c)
	order(&s, 4, 1, api.Waiting)
	order(&s, 10, 1, api.Waiting)
	order(&s, 5, 2, api.Delivered)
	jobOf(&s, api.Again, 3, 5, at(1, 1), at(4, 0))
	mayBe(t, c, s)
	nextIs(t, c, s, 0)
	// IDs hang on the queue, not on the place of the port.
	order(&s, 12, 2, api.Waiting)
	nextIs(t, c, s, 4, fetch(12, at(2, 2), at(5, 0)))
}

// P15.3: that the hive is held is no matter, as the chapter does not name it.
func TestNextWhileHeld(t *testing.T) {
	c := three()
	s := fresh(c)
	s.Held = true
	order(&s, 9, 0, api.Waiting)
	mayBe(t, c, s)
	nextIs(t, c, s, 1, fetch(9, at(2, 1), at(3, 0)))
}

// queues is what waits first at each port of three, highest in its stack.
func queues() []int { return []int{9, 6, 3} }

// waits is a state in which each port of three has an order that can be had, of queues, and behind it one of a bin that lies below.
func waits(c api.Conf) api.State {
	s := fresh(c)
	for p, bin := range queues() {
		order(&s, bin, p, api.Waiting)
	}
	for p, bin := range queues() {
		order(&s, bin-1, p, api.Waiting)
	}
	order(&s, 11, 0, api.Delivered)
	return s
}

// lair is the cell where what waits first at a port stands.
func lair(p int) api.Cell { return []api.Cell{at(2, 1), at(1, 1), at(4, 1)}[p] }

// drop takes the first order of a port's queue out of what waits, as if it had been delivered.
func drop(s *api.State, p int) {
	s.Orders[s.Ports[p].Queue[0]-1].State = api.Delivered
	s.Ports[p].Queue = s.Ports[p].Queue[1:]
}

// blockers are the reasons for which a port is passed over; none of them is another port's.
func blockers() []func(c api.Conf, s *api.State, p int) {
	return []func(c api.Conf, s *api.State, p int){
		// It has an active order.
		func(c api.Conf, s *api.State, p int) {
			id := s.Ports[p].Queue[0]
			s.Orders[id-1].State, s.Ports[p].Active, s.Ports[p].Queue = api.Active, id, s.Ports[p].Queue[1:]
		},
		// It has a bin.
		func(c api.Conf, s *api.State, p int) { toPort(s, 10+p, p) },
		// A job leads from it.
		func(c api.Conf, s *api.State, p int) { jobOf(s, api.Return, 0, 11, c.Ports[p], at(3, 2)) },
		// A job leads to it.
		func(c api.Conf, s *api.State, p int) { jobOf(s, api.Return, 0, 11, at(3, 2), c.Ports[p]) },
		// A job that a robot has leads to it.
		func(c api.Conf, s *api.State, p int) {
			jobOf(s, api.Return, 0, 11, at(3, 2), c.Ports[p])
			if r := p % 2; s.Robots[r].Job == 0 {
				s.Jobs[len(s.Jobs)-1].Robot, s.Robots[r].Job = r, s.NextJob-1
			}
		},
		// Nothing waits.
		func(c api.Conf, s *api.State, p int) { drop(s, p); drop(s, p) },
		// The bin stands in no stack (ErrBin).
		func(c api.Conf, s *api.State, p int) { swap(s, p, 10+p); gone(s, p, 10+p) },
		// Somebody works at the bin's cell (ErrState), from there, and to there.
		func(c api.Conf, s *api.State, p int) { jobOf(s, api.Return, 0, 11, lair(p), at(3, 2)) },
		func(c api.Conf, s *api.State, p int) { jobOf(s, api.Return, 0, 11, at(3, 2), lair(p)) },
		// There is no place for what lies above (ErrRoom).
		func(c api.Conf, s *api.State, p int) { swap(s, p, queues()[p]-2); narrow(s) },
	}
}

// swap has the first order of a port's queue ask for another bin.
func swap(s *api.State, p, bin int) { s.Orders[s.Ports[p].Queue[0]-1].Bin = bin }

// gone takes a bin out of the stacks, to a robot that has no job; if there is none, to the port itself.
func gone(s *api.State, p, bin int) {
	for r := range s.Robots {
		if s.Robots[r].Job == 0 {
			toRobot(s, bin, r, at(0, 1), at(5, 1))
			return
		}
	}
	toPort(s, bin, p)
}

// narrow has somebody work at each cell that is no port's lair.
func narrow(s *api.State) {
	cells := []api.Cell{at(1, 0), at(2, 0), at(4, 0), at(0, 1), at(5, 1), at(2, 2), at(3, 2)}
	for i, c := range cells {
		jobOf(s, api.Return, 0, 11, c, cells[(i+1)%len(cells)])
	}
}

// P15.3: each reason to pass over a port, alone and beside each other one at the other ports: the next port is told, or none.
func TestNextPassesOver(t *testing.T) {
	c := three()
	all := blockers()
	free := len(all)
	for choice := range (free + 1) * (free + 1) * (free + 1) {
		s := waits(c)
		want := 0
		for p, rest := 0, choice; p < 3; p, rest = p+1, rest/(free+1) {
			if which := rest % (free + 1); which < free {
				all[which](c, &s, p)
			} else if want == 0 {
				want = p + 1
			}
		}
		mayBe(t, c, s)
		if want == 0 {
			nextIs(t, c, s, 0)
			continue
		}
		nextIs(t, c, s, want, fetch(queues()[want-1], lair(want-1), c.Ports[want-1]))
	}
}

// P15.3: the reasons by which the jobs cannot be had are all errors that dig's Jobs has there.
func TestNextErrorsOfDig(t *testing.T) {
	c := three()
	count := map[api.Errno]int{}
	for p := range 3 {
		for _, block := range blockers() {
			s := waits(c)
			block(c, &s, p)
			if len(s.Ports[p].Queue) > 0 {
				_, e := dig.Jobs(c, s.Stacks, book.Touched(s), s.Orders[s.Ports[p].Queue[0]-1].Bin, c.Ports[p])
				count[e]++
			}
		}
	}
	for _, e := range []api.Errno{api.ErrBin, api.ErrState, api.ErrRoom} {
		if count[e] < 3 {
			t.Errorf("error %d: %d times", e, count[e])
		}
	}
}

// P15.3: the answers are those of the chapter's words done plainly, in states as luck has them.
func TestNextByTheWords(t *testing.T) {
	var luck chance = 7
	found, none, later, many := 0, 0, 0, 0
	count := map[api.Errno]int{}
	for range 20000 {
		c := drawConf(&luck)
		s := drawState(&luck, c)
		mayBe(t, c, s)
		id, jobs, passed := plainNext(c, s)
		nextIs(t, c, s, id, jobs...)
		for _, e := range passed {
			count[e]++
		}
		if id == 0 {
			none++
			continue
		}
		found++
		if len(jobs) > 2 {
			many++
		}
		if s.Orders[id-1].Port > slices.IndexFunc(s.Ports, func(p api.Port) bool { return len(p.Queue) > 0 }) {
			later++
		}
	}
	if found < 3000 || none < 1000 || later < 500 || many < 300 {
		t.Errorf("%d found, %d none, %d at a later port, %d of many jobs", found, none, later, many)
	}
	for _, e := range []api.Errno{api.ErrBin, api.ErrState, api.ErrRoom} {
		if count[e] < 100 {
			t.Errorf("error %d: %d times", e, count[e])
		}
	}
}
