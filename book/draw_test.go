package book_test

import (
	"slices"
	"testing"

	"skep/api"
	"skep/grid"
)

// drawConf is a small hive with cells of all kinds, with bins, and with at most four ports, at times none.
func drawConf(luck *chance) api.Conf {
	for {
		c := bare(2+luck.below(5), 2+luck.below(4), 1+luck.below(3), 1+luck.below(3))
		c.Back = luck.below(2) == 0
		cell := func() api.Cell { return at(luck.below(c.W), luck.below(c.H)) }
		for range luck.below(3) {
			c.Blocked = append(c.Blocked, cell())
		}
		for range luck.below(5) {
			c.Ports = append(c.Ports, cell())
		}
		for range luck.below(3) {
			c.Robots = append(c.Robots, api.Pose{At: cell(), Down: luck.below(2) == 0})
		}
		if grid.May(c) {
			c.Stacks = drawStacks(luck, c)
			return c
		}
	}
}

// drawStacks is bins on a config's stack cells, at times as many as there is room for; they have the numbers from 1 on, each stack's mixed.
func drawStacks(luck *chance, c api.Conf) []api.Stack {
	g, _ := grid.New(c)
	var out []api.Stack
	next, tight := 1, luck.below(4) == 0
	for cell := range g.Stacks() {
		l := api.Stack{At: cell}
		n := luck.below(c.Height + 1)
		if tight {
			n = c.Height
		}
		for range n {
			l.Bins = slices.Insert(l.Bins, luck.below(len(l.Bins)+1), next)
			next++
		}
		out = append(out, l)
	}
	return out
}

// drawState is a state that a config may be in, as far as this layer looks at it: bins in stacks, at ports and on robots, orders of all kinds, jobs with robots and without.
func drawState(luck *chance, c api.Conf) api.State {
	s := fresh(c)
	bins := 0
	for _, l := range c.Stacks {
		bins += len(l.Bins)
	}
	if bins == 0 {
		return s
	}
	s.Held = luck.below(12) == 0
	for p := range s.Ports {
		if luck.below(4) == 0 {
			toPort(&s, 1+luck.below(bins), p)
		}
	}
	for range luck.below(12) * min(1, len(c.Ports)) {
		drawOrder(luck, c, &s, 1+luck.below(bins))
	}
	drawJobs(luck, c, &s, bins)
	for r := range s.Robots {
		drawWork(luck, &s, r)
	}
	return s
}

// drawOrder adds an order for a bin, if one such may be.
func drawOrder(luck *chance, c api.Conf, s *api.State, bin int) {
	port, state := luck.below(len(c.Ports)), []int{api.Waiting, api.Waiting, api.Waiting, api.Active, api.Delivered}[luck.below(5)]
	for _, o := range s.Orders {
		if o.Bin == bin && o.State != api.Delivered && state != api.Delivered {
			return
		}
	}
	if state == api.Active && s.Ports[port].Active != 0 || state == api.Waiting && len(s.Ports[port].Queue) == c.Queue {
		return
	}
	order(s, bin, port, state)
}

// drawJobs adds jobs between open cells.
func drawJobs(luck *chance, c api.Conf, s *api.State, bins int) {
	g, _ := grid.New(c)
	for range luck.below(3) * luck.below(4) {
		from, to := at(luck.below(c.W), luck.below(c.H)), at(luck.below(c.W), luck.below(c.H))
		if from == to || !g.Open(from) || !g.Open(to) {
			continue
		}
		if len(s.Orders) == 0 || luck.below(3) == 0 {
			jobOf(s, api.Return, 0, 1+luck.below(bins), from, to)
			continue
		}
		o := s.Orders[luck.below(len(s.Orders))]
		fetched := slices.ContainsFunc(s.Jobs, func(j api.Job) bool { return j.Kind == api.Fetch && j.Order == o.ID })
		if o.State == api.Active && !fetched && from != c.Ports[o.Port] {
			jobOf(s, api.Fetch, o.ID, o.Bin, from, c.Ports[o.Port])
		} else {
			jobOf(s, []int{api.Away, api.Again}[luck.below(2)], o.ID, 1+luck.below(bins), from, to)
		}
	}
}

// drawWork gives a robot one of the jobs, at times, and at times the bin too.
func drawWork(luck *chance, s *api.State, robot int) {
	if len(s.Jobs) == 0 || luck.below(2) == 0 {
		return
	}
	i := luck.below(len(s.Jobs))
	if s.Jobs[i].Robot != -1 {
		return
	}
	s.Jobs[i].Robot, s.Robots[robot].Job = robot, s.Jobs[i].ID
	lifted := slices.ContainsFunc(s.Robots, func(r api.Robot) bool { return r.Load == s.Jobs[i].Bin })
	if luck.below(2) == 0 && !lifted {
		take(s, s.Jobs[i].Bin)
		s.Robots[robot].Load = s.Jobs[i].Bin
	}
}

// mayBe fails unless a state is one of the config by the words of layer 16's Check, of robots without moves: of any other the answers would be no matter.
func mayBe(t *testing.T, c api.Conf, s api.State) {
	t.Helper()
	if !grid.May(c) || !binsRight(c, s) || !ordersRight(c, s) || !jobsRight(c, s) {
		t.Fatalf("no state of the config:\n%+v\n%+v", c, s)
	}
}

// binsRight tells whether the config's bins are there, each once, in stacks on the stack cells, at ports and on robots.
func binsRight(c api.Conf, s api.State) bool {
	var want, got []int
	for _, l := range c.Stacks {
		want = append(want, l.Bins...)
	}
	for i, l := range fresh(c).Stacks {
		if i >= len(s.Stacks) || s.Stacks[i].At != l.At || len(s.Stacks[i].Bins) > c.Height {
			return false
		}
		got = append(got, s.Stacks[i].Bins...)
	}
	for _, p := range s.Ports {
		got = append(got, p.Bin)
	}
	for _, r := range s.Robots {
		got = append(got, r.Load)
	}
	got = slices.DeleteFunc(got, func(b int) bool { return b == 0 })
	slices.Sort(want)
	slices.Sort(got)
	return slices.Equal(want, got) && len(s.Stacks) == len(fresh(c).Stacks) && len(s.Ports) == len(c.Ports) && len(s.Robots) == len(c.Robots)
}

// ordersRight tells whether the orders, and what the ports have of them, may be.
func ordersRight(c api.Conf, s api.State) bool {
	queues, actives := make([][]int, len(c.Ports)), make([]int, len(c.Ports))
	asked := map[int]int{}
	for i, o := range s.Orders {
		if o.ID != i+1 || o.Port < 0 || o.Port >= len(c.Ports) || o.State < api.Waiting || o.State > api.Delivered || !known(c, o.Bin) {
			return false
		}
		if o.State != api.Delivered {
			asked[o.Bin]++
		}
		if asked[o.Bin] > 1 || o.State == api.Active && actives[o.Port] != 0 {
			return false
		}
		switch o.State {
		case api.Waiting:
			queues[o.Port] = append(queues[o.Port], o.ID)
		case api.Active:
			actives[o.Port] = o.ID
		}
	}
	for p := range c.Ports {
		if !slices.Equal(s.Ports[p].Queue, queues[p]) || len(queues[p]) > c.Queue || s.Ports[p].Active != actives[p] {
			return false
		}
	}
	return s.NextOrder == len(s.Orders)+1 && len(s.Orders) <= api.MaxOrders
}

// known tells whether a bin is the config's.
func known(c api.Conf, bin int) bool {
	return slices.ContainsFunc(c.Stacks, func(l api.Stack) bool { return slices.Contains(l.Bins, bin) })
}

// jobsRight tells whether the jobs, and what the robots have of them, may be.
func jobsRight(c api.Conf, s api.State) bool {
	g, _ := grid.New(c)
	last := 0
	fetched := map[int]int{}
	for _, j := range s.Jobs {
		if j.ID <= last || j.ID >= s.NextJob || !known(c, j.Bin) || !g.Open(j.From) || !g.Open(j.To) || j.From == j.To {
			return false
		}
		last = j.ID
		if j.Kind < api.Away || j.Kind > api.Return || j.Order < 0 || j.Order > len(s.Orders) || j.Order == 0 && j.Kind != api.Return {
			return false
		}
		if j.Kind == api.Fetch {
			o := s.Orders[j.Order-1]
			fetched[o.ID]++
			if fetched[o.ID] > 1 || o.State != api.Active || o.Bin != j.Bin || c.Ports[o.Port] != j.To {
				return false
			}
		}
		if j.Robot != -1 && (j.Robot < 0 || j.Robot >= len(s.Robots) || s.Robots[j.Robot].Job != j.ID) {
			return false
		}
	}
	for i, r := range s.Robots {
		mine := func(j api.Job) bool { return j.Robot == i && j.ID == r.Job && (r.Load == 0 || r.Load == j.Bin) }
		if r.Job != 0 && !slices.ContainsFunc(s.Jobs, mine) || r.Job == 0 && r.Load != 0 {
			return false
		}
	}
	return true
}
