package book_test

import (
	"slices"
	"testing"

	"skep/api"
)

// The chapter's example: two ports, queues empty, -1: port 0; the next one: port 1.
func TestExample(t *testing.T) {
	c := three()
	c.Ports = c.Ports[:2]
	s := fresh(c)
	for i, bin := range []int{7, 1, 9, 5} {
		mayBe(t, c, s)
		admits(t, c, s, bin, -1, i%2, api.OK)
		order(&s, bin, i%2, api.Waiting)
	}
	admits(t, c, s, 6, -1, 0, api.ErrFull)
}

// P15.1: a bin that is in a stack, low, in the midst or high, is taken.
func TestAdmitOfStacks(t *testing.T) {
	c := three()
	s := fresh(c)
	mayBe(t, c, s)
	for _, l := range c.Stacks {
		for _, bin := range l.Bins {
			for port := range 3 {
				admits(t, c, s, bin, port, port, api.OK)
			}
			admits(t, c, s, bin, -1, 0, api.OK)
		}
	}
}

// P15.1: ErrBin of a bin that is nowhere; 0 is none, though ports and robots that have none say 0.
func TestAdmitOfNowhere(t *testing.T) {
	c := three()
	s := fresh(c)
	toPort(&s, 3, 1)
	toRobot(&s, 12, 1, at(2, 2), at(3, 2))
	mayBe(t, c, s)
	for _, bin := range append(ends(), -12, -1, 0, 13, 14) {
		for _, port := range []int{-2, -1, 0, 2, 3} {
			admits(t, c, s, bin, port, 0, api.ErrBin)
		}
	}
}

// P15.1: ErrOut of a bin at a port, the one asked for or another, and on a robot; what else is out is no matter.
func TestAdmitOfOut(t *testing.T) {
	c := three()
	s := fresh(c)
	toPort(&s, 3, 2)
	toRobot(&s, 12, 1, at(2, 2), at(3, 2))
	mayBe(t, c, s)
	for _, bin := range []int{3, 12} {
		for port := -1; port < 3; port++ {
			admits(t, c, s, bin, port, 0, api.ErrOut)
		}
	}
	for _, bin := range []int{1, 2, 11, 7} {
		for port := range 3 {
			admits(t, c, s, bin, port, port, api.OK)
		}
		admits(t, c, s, bin, -1, 0, api.OK)
	}
}

// P15.1: ErrPort below -1 and from one too many on; of -1 where there are none.
func TestAdmitPorts(t *testing.T) {
	c := three()
	s := fresh(c)
	for _, port := range append(ends(), -3, -2, 3, 4, 8) {
		admits(t, c, s, 7, port, 0, api.ErrPort)
	}
	c.Ports = nil
	s = fresh(c)
	mayBe(t, c, s)
	for _, port := range append(ends(), -2, -1, 0, 1) {
		admits(t, c, s, 7, port, 0, api.ErrPort)
	}
	c.Ports = []api.Cell{at(3, 0)}
	s = fresh(c)
	mayBe(t, c, s)
	admits(t, c, s, 7, -1, 0, api.OK)
	admits(t, c, s, 7, 0, 0, api.OK)
	admits(t, c, s, 7, 1, 0, api.ErrPort)
}

// P15.1: ErrDouble while an order for the bin waits or is active, at whatever port; behind its delivery the bin may be asked for again.
func TestAdmitDouble(t *testing.T) {
	for state, e := range map[int]api.Errno{api.Waiting: api.ErrDouble, api.Active: api.ErrDouble, api.Delivered: api.OK} {
		for of := range 3 {
			c := three()
			c.Queue = 3
			s := fresh(c)
			order(&s, 8, 0, api.Delivered)
			order(&s, 9, 1, api.Waiting)
			order(&s, 8, of, state)
			mayBe(t, c, s)
			for port := range 3 {
				want := port
				if e != api.OK {
					want = 0
				}
				admits(t, c, s, 8, port, want, e)
				admits(t, c, s, 7, port, port, api.OK)
			}
		}
	}
	// Once more behind a delivery.
	c := three()
	s := fresh(c)
	order(&s, 8, 0, api.Delivered)
	order(&s, 8, 0, api.Delivered)
	admits(t, c, s, 8, 0, 0, api.OK)
	order(&s, 8, 2, api.Active)
	admits(t, c, s, 8, 0, 0, api.ErrDouble)
	admits(t, c, s, 8, -1, 0, api.ErrDouble)
}

// P15.1: ErrFull, if NextOrder is above MaxOrders; at MaxOrders there is one order more.
func TestAdmitMaxOrders(t *testing.T) {
	c := three()
	s := fresh(c)
	for s.NextOrder < 4096 {
		order(&s, 1+s.NextOrder%12, s.NextOrder%3, api.Delivered)
	}
	mayBe(t, c, s)
	admits(t, c, s, 7, 1, 1, api.OK)
	admits(t, c, s, 7, -1, 0, api.OK)
	order(&s, 1, 1, api.Delivered)
	mayBe(t, c, s)
	for port := -1; port < 3; port++ {
		admits(t, c, s, 7, port, 0, api.ErrFull)
	}
}

// P15.1: ErrFull, if the port's queue has Queue orders; with one less there is room. An active order takes none of it.
func TestAdmitQueue(t *testing.T) {
	for _, queue := range []int{1, 2, 3} {
		for port := range 3 {
			c := three()
			c.Queue = queue
			s := fresh(c)
			order(&s, 10, port, api.Active)
			for bin := range queue {
				mayBe(t, c, s)
				admits(t, c, s, 7, port, port, api.OK)
				order(&s, 1+bin, port, api.Waiting)
			}
			mayBe(t, c, s)
			admits(t, c, s, 7, port, 0, api.ErrFull)
			for other := range 3 {
				if other != port {
					admits(t, c, s, 7, other, other, api.OK)
				}
			}
		}
	}
}

// P15.1: of -1 the port that has the fewest orders waiting and active together, of those whose queue has room, the lowest of such.
func TestAdmitAny(t *testing.T) {
	for _, x := range []struct {
		waiting, active []int
		want            int
		e               api.Errno
	}{
		{[]int{0, 0, 0}, []int{0, 0, 0}, 0, api.OK},
		{[]int{1, 0, 0}, []int{0, 0, 0}, 1, api.OK},
		{[]int{1, 1, 0}, []int{0, 0, 0}, 2, api.OK},
		{[]int{0, 1, 0}, []int{0, 0, 0}, 0, api.OK},
		{[]int{0, 0, 0}, []int{1, 0, 0}, 1, api.OK},
		{[]int{0, 0, 0}, []int{1, 1, 0}, 2, api.OK},
		{[]int{0, 0, 0}, []int{1, 1, 1}, 0, api.OK},
		// One that waits and one that is active count alike.
		{[]int{1, 0, 1}, []int{0, 1, 0}, 0, api.OK},
		{[]int{1, 1, 0}, []int{0, 0, 1}, 0, api.OK},
		{[]int{1, 0, 1}, []int{1, 1, 0}, 1, api.OK},
		{[]int{1, 1, 1}, []int{1, 1, 0}, 2, api.OK},
		// A full queue of two, without an active order, has as many as one that waits and one that is active.
		{[]int{2, 1, 1}, []int{0, 1, 1}, 1, api.OK},
		{[]int{2, 2, 1}, []int{0, 0, 1}, 2, api.OK},
		{[]int{2, 0, 2}, []int{1, 1, 0}, 1, api.OK},
		{[]int{1, 2, 2}, []int{1, 0, 0}, 0, api.OK},
		{[]int{2, 2, 2}, []int{0, 0, 0}, 0, api.ErrFull},
		{[]int{2, 2, 2}, []int{1, 0, 1}, 0, api.ErrFull},
	} {
		c := three()
		s := fresh(c)
		bin := 1
		for p := range 3 {
			for range x.waiting[p] {
				order(&s, bin, p, api.Waiting)
				bin++
			}
			for range x.active[p] {
				order(&s, bin, p, api.Active)
				bin++
			}
			// Delivered ones do not count.
			for range 3 - p {
				order(&s, 12, p, api.Delivered)
			}
		}
		mayBe(t, c, s)
		admits(t, c, s, 12, -1, x.want, x.e)
	}
}

// P15.1: a full queue is passed over, though it is the lowest and has no more orders than others: with Queue 1 one that waits fills a queue, one that is active does not.
func TestAdmitAnyPassesFull(t *testing.T) {
	c := three()
	c.Queue = 1
	s := fresh(c)
	order(&s, 1, 0, api.Waiting)
	order(&s, 2, 1, api.Active)
	order(&s, 3, 2, api.Waiting)
	mayBe(t, c, s)
	admits(t, c, s, 7, -1, 1, api.OK)
	order(&s, 4, 1, api.Waiting)
	mayBe(t, c, s)
	admits(t, c, s, 7, -1, 0, api.ErrFull)
}

// asking is what Admit is asked.
type asking struct {
	c         api.Conf
	s         api.State
	bin, port int
}

// P15.1, R2: of several errors the first that the chapter names: all choices of causes.
func TestAdmitFirstError(t *testing.T) {
	causes := []struct {
		e    api.Errno
		turn func(q *asking)
	}{
		{api.ErrHeld, func(q *asking) { q.s.Held = true }},
		{api.ErrBin, func(q *asking) { q.bin = 99 }},
		{api.ErrPort, func(q *asking) { q.port = 3 }},
		{api.ErrDouble, func(q *asking) { order(&q.s, 7, 1, api.Waiting) }},
		{api.ErrOut, func(q *asking) { toPort(&q.s, 7, 2) }},
		{api.ErrFull, func(q *asking) { order(&q.s, 1, 0, api.Waiting); order(&q.s, 2, 0, api.Waiting) }},
		{api.ErrFull, func(q *asking) {
			for q.s.NextOrder <= api.MaxOrders {
				order(&q.s, 12, 2, api.Delivered)
			}
		}},
	}
	for choice := range 1 << len(causes) {
		q := asking{c: three(), s: fresh(three()), bin: 7}
		e := api.OK
		for i, x := range causes {
			if choice>>i&1 == 0 {
				continue
			}
			x.turn(&q)
			if e == api.OK {
				e = x.e
			}
		}
		mayBe(t, q.c, q.s)
		admits(t, q.c, q.s, q.bin, q.port, 0, e)
	}
}

// P15.1, R2: the same of -1, where there are no ports, and where there are.
func TestAdmitFirstErrorOfAny(t *testing.T) {
	none := three()
	none.Ports = nil
	s := fresh(none)
	admits(t, none, s, 99, -1, 0, api.ErrBin)
	admits(t, none, s, 7, -1, 0, api.ErrPort)
	toRobot(&s, 7, 0, at(2, 1), at(2, 2))
	mayBe(t, none, s)
	admits(t, none, s, 7, -1, 0, api.ErrPort)
	s.Held = true
	admits(t, none, s, 99, -1, 0, api.ErrHeld)

	c := three()
	s = fresh(c)
	for i, bin := range []int{1, 2, 3, 4, 5, 6} {
		order(&s, bin, i%3, api.Waiting)
	}
	toPort(&s, 7, 1)
	toPort(&s, 1, 2)
	mayBe(t, c, s)
	admits(t, c, s, 99, -1, 0, api.ErrBin)
	admits(t, c, s, 1, -1, 0, api.ErrDouble)
	admits(t, c, s, 7, -1, 0, api.ErrOut)
	admits(t, c, s, 8, -1, 0, api.ErrFull)
	s.Held = true
	admits(t, c, s, 8, -1, 0, api.ErrHeld)
}

// P15.1: the answers are those of the chapter's words done plainly, in states as luck has them.
func TestAdmitByTheWords(t *testing.T) {
	var luck chance = 3
	count, ports := map[api.Errno]int{}, map[int]int{}
	for range 3000 {
		c := drawConf(&luck)
		s := drawState(&luck, c)
		mayBe(t, c, s)
		for _, bin := range slices.Concat([]int{0, 1, 2, 3, 5, 8, 13, 21}, queued(s)) {
			for port := -2; port < len(c.Ports)+2; port++ {
				want, e := plainAdmit(c, s, bin, port)
				admits(t, c, s, bin, port, want, e)
				count[e]++
				if port == -1 && e == api.OK {
					ports[want]++
				}
			}
		}
	}
	for _, e := range []api.Errno{api.OK, api.ErrHeld, api.ErrBin, api.ErrPort, api.ErrDouble, api.ErrOut, api.ErrFull} {
		if count[e] < 100 {
			t.Errorf("error %d: %d times", e, count[e])
		}
	}
	for p := range 3 {
		if ports[p] < 100 {
			t.Errorf("port %d: %d times", p, ports[p])
		}
	}
}

// queued is the bins that are asked for.
func queued(s api.State) []int {
	var out []int
	for _, o := range s.Orders {
		out = append(out, o.Bin)
	}
	return out
}
