package state_test

import (
	"slices"

	"skep/api"
	"skep/book"
	"skep/grid"
	"skep/plan"
)

// drawConf is a small hive with cells of all kinds, with bins, ports and robots, at times without.
func drawConf(luck *chance) api.Conf {
	for {
		c := bare(2+luck.below(5), 2+luck.below(4), 1+luck.below(3), 1+luck.below(3))
		c.Back = luck.below(2) == 0
		cell := func() api.Cell { return at(luck.below(c.W), luck.below(c.H)) }
		for range luck.below(3) {
			c.Blocked = append(c.Blocked, cell())
		}
		for range 1 + luck.below(3) {
			c.Ports = append(c.Ports, cell())
		}
		for range 1 + luck.below(3) {
			c.Robots = append(c.Robots, api.Pose{At: cell(), Down: luck.below(2) == 0})
		}
		if luck.below(20) == 0 {
			c.Robots = nil
		}
		if grid.May(c) {
			c.Stacks = drawStacks(luck, c)
			return c
		}
	}
}

// drawStacks is bins on a config's stack cells, with the numbers from 1 on, each stack's mixed.
func drawStacks(luck *chance, c api.Conf) []api.Stack {
	g, _ := grid.New(c)
	var out []api.Stack
	next := 1
	for cell := range g.Stacks() {
		l := api.Stack{At: cell}
		for range luck.below(c.Height + 1) {
			l.Bins = slices.Insert(l.Bins, luck.below(len(l.Bins)+1), next)
			next++
		}
		out = append(out, l)
	}
	return out
}

// near is a number below n, at times one that is just beyond.
func near(luck *chance, n int) int {
	if luck.below(12) == 0 {
		return []int{-1, n, n + 1}[luck.below(3)]
	}
	if n == 0 {
		return 0
	}
	return luck.below(n)
}

// drawEvent is an event that may be, or nearly, in a state.
func drawEvent(luck *chance, c api.Conf, s api.State) api.Event {
	robot := near(luck, len(s.Robots))
	switch luck.below(24) {
	case 0, 1:
		return evOrder(1+near(luck, len(bins(c))), near(luck, len(c.Ports)))
	case 2, 3:
		if id, _, ok := book.Next(c, s); ok {
			return evBegin(id)
		}
		return evBegin(1 + near(luck, len(s.Orders)))
	case 4, 5, 6, 7, 8:
		return drawPlan(luck, c, s, robot)
	case 9, 10, 11, 12, 13:
		return evGo(robot)
	case 14, 15, 16, 17, 18:
		return evDone(robot)
	case 19:
		return evDrain(near(luck, len(c.Ports)))
	case 20, 21:
		return drawHalt(luck, c, s, robot)
	case 22:
		return evResume()
	}
	if luck.below(4) == 0 {
		return evStop()
	}
	return api.Event{Kind: near(luck, 10), A: near(luck, 3), B: near(luck, 3)}
}

// drawPlan is a round for a robot, with the job that it has, with one that is ready, or home; at times not quite that.
func drawPlan(luck *chance, c api.Conf, s api.State, robot int) api.Event {
	if robot < 0 || robot >= len(s.Robots) {
		return evPlan(robot, 0, nil)
	}
	tick := luck.below(300)
	var stops []plan.Stop
	e := evPlan(robot, 0, nil)
	j, ok := jobOf(s, s.Robots[robot].Job)
	if !ok {
		for x := range book.Ready(s) {
			if j, ok = x, true; luck.below(2) == 0 {
				break
			}
		}
		e.B = j.ID
	}
	if ok && s.Robots[robot].Load == 0 {
		stops = append(stops, lifts(j.From))
	}
	if ok {
		stops = append(stops, drops(j.To))
	}
	if luck.below(8) == 0 {
		stops = append(stops, []plan.Stop{lifts(at(luck.below(c.W), luck.below(c.H))), drops(at(luck.below(c.W), luck.below(c.H)))}[luck.below(2)])
	}
	e.Moves = roundOf(c, s, robot, tick, stops...)
	if luck.below(8) == 0 {
		e.B = near(luck, s.NextJob)
	}
	if n := len(e.Moves); n > 0 && luck.below(8) == 0 {
		m := &e.Moves[luck.below(n)]
		by := luck.below(40) - 20
		m.At, m.End = m.At+by, m.End+by
	}
	if n := len(e.Moves); luck.below(12) == 0 {
		e.Moves = e.Moves[:luck.below(n+1)]
	}
	return e
}

// drawHalt is that a robot stands somewhere.
func drawHalt(luck *chance, c api.Conf, s api.State, robot int) api.Event {
	if robot < 0 || robot >= len(s.Robots) {
		return evHalt(robot, 0, flat(0, 0))
	}
	r := s.Robots[robot]
	j, _ := jobOf(s, r.Job)
	l := plainPoses(c, r)
	e := evHalt(robot, []int{r.Load, r.Load, r.Load, j.Bin, 0, 1}[luck.below(6)], l[luck.below(len(l))])
	if luck.below(8) == 0 {
		e.Pose = api.Pose{At: at(luck.below(c.W), luck.below(c.H)), Down: luck.below(2) == 0}
	}
	return e
}
