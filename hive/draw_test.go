package hive_test

import (
	"slices"

	"skep/api"
	"skep/grid"
)

// drawConf is a small hive with cells of all kinds, with bins, ports and robots, at times without robots, or with a budget that does not reach far.
func drawConf(luck *chance) api.Conf {
	for {
		c := bare(3+luck.below(4), 2+luck.below(4))
		c.Height, c.Queue, c.Resend = 1+luck.below(3), 1+luck.below(3), 3+luck.below(10)
		c.Turn, c.Hoist, c.Speed = 1+luck.below(4), 1+luck.below(4), 2+luck.below(8)
		c.Back = luck.below(2) == 0
		if luck.below(5) == 0 {
			c.Budget = 5 + luck.below(40)
		}
		cell := func() api.Cell { return at(luck.below(c.W), luck.below(c.H)) }
		for range luck.below(3) {
			c.Blocked = append(c.Blocked, cell())
		}
		for range 1 + luck.below(3) {
			c.Ports = append(c.Ports, cell())
		}
		for range 1 + luck.below(3) {
			c.Robots = append(c.Robots, api.Pose{At: cell(), Down: luck.below(2) == 0})
		}
		if luck.below(20) == 0 {
			c.Robots = nil
		}
		if grid.May(c) {
			c.Stacks = drawStacks(luck, c)
			return c
		}
	}
}

// drawStacks is bins on a config's stack cells, with the numbers from 1 on, each stack's mixed.
func drawStacks(luck *chance, c api.Conf) []api.Stack {
	g, _ := grid.New(c)
	var out []api.Stack
	next := 1
	for cell := range g.Stacks() {
		l := api.Stack{At: cell}
		for range luck.below(c.Height + 1) {
			l.Bins = slices.Insert(l.Bins, luck.below(len(l.Bins)+1), next)
			next++
		}
		out = append(out, l)
	}
	return out
}

// bins is how many a config has.
func bins(c api.Conf) int {
	n := 0
	for _, l := range c.Stacks {
		n += len(l.Bins)
	}
	return n
}

// near is a number below n, at times one that is just beyond.
func near(luck *chance, n int) int {
	if luck.below(12) == 0 || n == 0 {
		return []int{-1, n, n + 1}[luck.below(3)]
	}
	return luck.below(n)
}

// drawOp is an operation that is no tick.
func drawOp(luck *chance, c api.Conf, s api.State) api.Op {
	switch luck.below(16) {
	case 0, 1, 2, 3, 4, 5:
		return opOrder(1+near(luck, bins(c)), near(luck, len(c.Ports)+1)-1)
	case 6, 7, 8:
		for i, p := range s.Ports {
			if p.Bin != 0 && luck.below(2) == 0 {
				return opDrain(i)
			}
		}
		return opDrain(near(luck, len(c.Ports)))
	case 9:
		if luck.below(3) == 0 {
			return opStop()
		}
		return opCheck()
	case 10, 11, 12, 13, 14:
		if s.Held || luck.below(5) == 0 {
			return opResume()
		}
		return opTick()
	}
	return api.Op{Kind: near(luck, 14), A: near(luck, 3), B: near(luck, 3)}
}

// drawNoise is a telegram that a robot might have told, but did not, or nearly so.
func drawNoise(luck *chance, s api.State) api.Tele {
	i := near(luck, len(s.Robots))
	x := api.Tele{Kind: []int{api.TeAck, api.TeHalt}[luck.below(2)], Robot: i, Epoch: s.Epoch}
	if i < 0 || i >= len(s.Robots) {
		return x
	}
	r := s.Robots[i]
	x.Num, x.Pose, x.Load = r.Num, r.At, r.Load
	switch luck.below(8) {
	case 0:
		x.Num += luck.below(3) - 1
	case 1:
		x.Epoch += luck.below(3) - 1
	case 2:
		x.Kind = near(luck, 5)
	case 3:
		x.Load = luck.below(4)
	case 4:
		x.Pose.Down = !x.Pose.Down
	case 5:
		x.Pose.At.X++
	default:
		// Told in the wrong state of things, so that it must be passed over, and never what the robot may really have done.
		if !s.Held {
			x.Kind = api.TeHalt
		} else {
			x.Kind = api.TeAck
		}
	}
	return x
}
