package play_test

import (
	"slices"

	"skep/api"
	"skep/grid"
	"skep/play"
)

// drawConf is a small hive with cells of all kinds, with bins, ports and robots, at times without robots, or with a budget that does not reach far.
func drawConf(luck *chance) api.Conf {
	for {
		c := bare(3+luck.below(4), 2+luck.below(4))
		c.Height, c.Queue, c.Resend = 1+luck.below(3), 1+luck.below(3), 3+luck.below(10)
		c.Turn, c.Hoist, c.Speed = 1+luck.below(4), 1+luck.below(4), 2+luck.below(8)
		c.Back = luck.below(2) == 0
		if luck.below(5) == 0 {
			c.Budget = 5 + luck.below(40)
		}
		cell := func() api.Cell { return at(luck.below(c.W), luck.below(c.H)) }
		for range luck.below(3) {
			c.Blocked = append(c.Blocked, cell())
		}
		for range 1 + luck.below(3) {
			c.Ports = append(c.Ports, cell())
		}
		for range 1 + luck.below(3) {
			c.Robots = append(c.Robots, api.Pose{At: cell(), Down: luck.below(2) == 0})
		}
		if luck.below(20) == 0 {
			c.Robots = nil
		}
		if grid.May(c) {
			c.Stacks = drawStacks(luck, c)
			return c
		}
	}
}

// drawStacks is bins on a config's stack cells, with the numbers from 1 on, each stack's mixed.
func drawStacks(luck *chance, c api.Conf) []api.Stack {
	g, _ := grid.New(c)
	var out []api.Stack
	next := 1
	for cell := range g.Stacks() {
		l := api.Stack{At: cell}
		for range luck.below(c.Height + 1) {
			l.Bins = slices.Insert(l.Bins, luck.below(len(l.Bins)+1), next)
			next++
		}
		out = append(out, l)
	}
	return out
}

// bins is how many a config has.
func bins(c api.Conf) int {
	n := 0
	for _, l := range c.Stacks {
		n += len(l.Bins)
	}
	return n
}

// near is a number below n, at times one that is just beyond.
func near(luck *chance, n int) int {
	if luck.below(12) == 0 || n == 0 {
		return []int{-1, n, n + 1}[luck.below(3)]
	}
	return luck.below(n)
}

// place is how much of what is pending in a file is left by a crash: any of it, none, all, or as much as one may say.
func place(luck *chance, pending int) int {
	switch luck.below(8) {
	case 0:
		return 0
	case 1:
		return pending
	case 2:
		return ends()[luck.below(len(ends()))]
	}
	return luck.below(pending + 1)
}

// drawCrash is a crash at any place of both files.
func drawCrash(luck *chance, r *play.Run) api.Op {
	return opCrash(place(luck, r.Disk().Pending(0)), place(luck, r.Disk().Pending(1)))
}

// drawAsk is an operation for the controller that is no tick.
func drawAsk(luck *chance, c api.Conf, s api.State) api.Op {
	switch luck.below(16) {
	case 0, 1, 2, 3, 4, 5:
		return opOrder(1+near(luck, bins(c)), near(luck, len(c.Ports)+1)-1)
	case 6, 7, 8:
		for i, p := range s.Ports {
			if p.Bin != 0 && luck.below(2) == 0 {
				return opDrain(i)
			}
		}
		return opDrain(near(luck, len(c.Ports)))
	case 9:
		if luck.below(3) == 0 {
			return opStop()
		}
		return opCheck()
	case 10, 11, 12, 13, 14:
		if s.Held || luck.below(6) == 0 {
			return opResume()
		}
		return opTick()
	}
	return api.Op{Kind: []int{0, -1, 11, 12, ends()[luck.below(len(ends()))]}[luck.below(5)], A: near(luck, 3), B: near(luck, 3)}
}

// drawOp is any operation, most of them such that things go on.
func drawOp(luck *chance, c api.Conf, r *play.Run) api.Op {
	switch n := luck.below(100); {
	case n < 42:
		return opTick()
	case n < 76 && r.Radio().Len() == 0 && luck.below(4) > 0:
		return opTick()
	case n < 76:
		i := luck.below(min(r.Radio().Len()+1, 1+luck.below(4)))
		if luck.below(6) == 0 {
			i = []int{-1, -1 - luck.below(9), luck.below(2000), ends()[luck.below(len(ends()))]}[luck.below(4)]
		}
		if luck.below(10) == 0 {
			return opHear(i, 1+luck.below(20)/19)
		}
		return opHear(i, 0)
	case n < 93:
		return drawAsk(luck, c, r.State())
	case n < 95:
		return opDelay(near(luck, len(c.Robots)), luck.below(9)-1)
	case n < 98:
		return opLose(luck.below(9) - 3)
	case luck.below(3) == 0:
		return drawCrash(luck, r)
	}
	return opTick()
}
