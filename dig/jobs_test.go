package dig_test

import (
	"math"
	"slices"
	"testing"

	"skep/api"
)

// one is a question for a bin of 7, 8, 9 at 1, 1, where the places are 1, 0 and behind it 0, 1.
func one(c api.Conf, bin int) question {
	return question{c: c, stacks: []api.Stack{pile(1, 1, 7, 8, 9), pile(1, 0, 4, 5)}, bin: bin, port: at(0, 0)}
}

// P14.1: a bin that lies highest, in the middle, lowest, alone; without Back.
func TestJobs(t *testing.T) {
	from, port := at(1, 1), at(0, 0)
	gives(t, one(mixed(), 9), fetch(9, from, port))
	gives(t, one(mixed(), 8), away(9, from, at(1, 0)), fetch(8, from, port))
	gives(t, one(mixed(), 7), away(9, from, at(1, 0)), away(8, from, at(0, 1)), fetch(7, from, port))
	alone := question{c: mixed(), stacks: []api.Stack{pile(3, 2, 6)}, bin: 6, port: at(4, 0)}
	gives(t, alone, fetch(6, at(3, 2), at(4, 0)))
}

// P14.1: the same with Back: behind the Fetch the last one that was put away is put back first.
func TestJobsBack(t *testing.T) {
	c, from, port := back(mixed()), at(1, 1), at(0, 0)
	gives(t, one(c, 9), fetch(9, from, port))
	gives(t, one(c, 8), away(9, from, at(1, 0)), fetch(8, from, port), again(9, at(1, 0), from))
	gives(t, one(c, 7), away(9, from, at(1, 0)), away(8, from, at(0, 1)), fetch(7, from, port), again(8, at(0, 1), from), again(9, at(1, 0), from))
	alone := question{c: c, stacks: []api.Stack{pile(3, 2, 6)}, bin: 6, port: at(4, 0)}
	gives(t, alone, fetch(6, at(3, 2), at(4, 0)))
}

// The chapter's example: 7, 8, 9 at 0, 0; bin 7.
func TestExample(t *testing.T) {
	c := bare(3, 2, 3)
	c.Ports = []api.Cell{at(2, 0)}
	q := question{c: c, stacks: []api.Stack{pile(0, 0, 7, 8, 9)}, bin: 7, port: at(2, 0)}
	first := []api.Job{away(9, at(0, 0), at(1, 0)), away(8, at(0, 0), at(1, 0)), fetch(7, at(0, 0), at(2, 0))}
	gives(t, q, first...)
	q.c.Back = true
	gives(t, q, append(first, again(8, at(1, 0), at(0, 0)), again(9, at(1, 0), at(0, 0)))...)
}

// P14.1: any port of the config will do; a bin may have any number.
func TestJobsOfAnyPortAndBin(t *testing.T) {
	for _, port := range mixed().Ports {
		for _, bin := range append(ends(), -1, 0, 1) {
			q := question{c: mixed(), stacks: []api.Stack{pile(2, 1, 6), pile(2, 0, bin, 5)}, bin: bin, port: port}
			gives(t, q, away(5, at(2, 0), at(1, 0)), fetch(bin, at(2, 0), port))
		}
	}
}

// P14.1: the places of a great stack: each cell is filled up, those given by the same call counted, ahead of the next one.
func TestJobsFillUp(t *testing.T) {
	c := back(mixed())
	c.Height = 8
	q := question{c: c, bin: 1, port: at(4, 0), touched: []api.Cell{at(2, 0), at(1, 1)}}
	q.stacks = []api.Stack{pile(0, 1, 20, 21, 22, 23, 24, 25, 26), pile(1, 0, 1, 2, 3, 4, 5, 6, 7, 8), pile(2, 1, 30, 31, 32, 33, 34, 35), pile(3, 0, 40, 41, 42, 43, 44, 45, 46)}
	from := at(1, 0)
	// 3, 0 and 0, 1 and 2, 1 are two away, in this order, with one, one and two places; then 2, 2 with eight.
	tos := []api.Cell{at(3, 0), at(0, 1), at(2, 1), at(2, 1), at(2, 2), at(2, 2), at(2, 2)}
	var want []api.Job
	for i, to := range tos {
		want = append(want, away(8-i, from, to))
	}
	want = append(want, fetch(1, from, at(4, 0)))
	for i, to := range slices.Backward(tos) {
		want = append(want, again(8-i, to, from))
	}
	gives(t, q, want...)
}

// P14.1: each error, by itself.
func TestJobsErrors(t *testing.T) {
	for _, turn := range []func(c *api.Conf){
		func(c *api.Conf) { *c = api.Conf{} },
		func(c *api.Conf) { c.W = 0 },
		func(c *api.Conf) { c.H = 17 },
		func(c *api.Conf) { c.Height = 9 },
		func(c *api.Conf) { c.Speed = 0 },
		func(c *api.Conf) { c.Ports = append(c.Ports, at(0, 0)) },
		func(c *api.Conf) { c.Stacks = []api.Stack{pile(0, 0, 1)} },
	} {
		q := one(mixed(), 7)
		turn(&q.c)
		refuses(t, q, api.ErrConf)
	}
	for _, cell := range append(stackCells(), at(3, 1), at(0, 2), at(4, 2), at(-1, 0), at(0, 3), at(5, 0), at(math.MinInt, math.MaxInt)) {
		q := one(mixed(), 7)
		q.port = cell
		refuses(t, q, api.ErrPort)
	}
	for _, bin := range append(ends(), 0, -7, 1, 10) {
		refuses(t, one(mixed(), bin), api.ErrBin)
	}
	q := one(mixed(), 7)
	q.stacks = nil
	refuses(t, q, api.ErrBin)
	q = one(mixed(), 9)
	q.touched = []api.Cell{at(2, 1), at(1, 1)}
	refuses(t, q, api.ErrState)
	q = one(mixed(), 8)
	q.touched = slices.DeleteFunc(stackCells(), func(c api.Cell) bool { return c == at(1, 1) })
	refuses(t, q, api.ErrRoom)
	// What lies highest needs no place.
	q.bin = 9
	gives(t, q, fetch(9, at(1, 1), at(0, 0)))
}

// P14.1, R2: of several errors the first that the chapter names.
func TestJobsFirstError(t *testing.T) {
	q := one(mixed(), 1)
	q.c.Height, q.port, q.touched = 0, at(1, 1), stackCells()
	refuses(t, q, api.ErrConf)
	q.c.Height = 1
	refuses(t, q, api.ErrPort)
	q.bin = 7
	refuses(t, q, api.ErrPort)
	q.bin, q.port = 1, at(0, 0)
	refuses(t, q, api.ErrBin)
	q.bin = 7
	refuses(t, q, api.ErrState)
	q.touched = slices.DeleteFunc(stackCells(), func(c api.Cell) bool { return c == at(1, 1) })
	refuses(t, q, api.ErrRoom)
}

// P14.1: there must be a place for each that lies above, not for the first alone; with the last place it can be done.
func TestJobsLastPlace(t *testing.T) {
	q := one(mixed(), 7)
	q.touched = slices.DeleteFunc(stackCells(), func(c api.Cell) bool { return c == at(1, 1) || c == at(1, 0) })
	refuses(t, q, api.ErrRoom)
	q.bin = 8
	gives(t, q, away(9, at(1, 1), at(1, 0)), fetch(8, at(1, 1), at(0, 0)))
	q.bin, q.stacks[1].Bins = 7, []int{4}
	gives(t, q, away(9, at(1, 1), at(1, 0)), away(8, at(1, 1), at(1, 0)), fetch(7, at(1, 1), at(0, 0)))
	// The place that the bin leaves, and those below it, do not count.
	q.stacks[1].Bins = []int{4, 5, 6}
	refuses(t, q, api.ErrRoom)
}

// P14.1: of a bin in two stacks the first cell in order counts, wherever it stands in the list.
func TestBinInTwoStacks(t *testing.T) {
	for _, l := range [][]api.Stack{
		{pile(3, 0, 7), pile(0, 1, 7, 8)},
		{pile(0, 1, 7, 8), pile(3, 0, 7)},
		{pile(0, 0, 7), pile(1, 0), pile(0, 1, 7), pile(3, 0, 7), pile(0, -1, 7)},
	} {
		q := question{c: mixed(), stacks: l, bin: 7, port: at(4, 0)}
		gives(t, q, fetch(7, at(3, 0), at(4, 0)))
		// That the other one could be had is no matter.
		q.touched = []api.Cell{at(3, 0)}
		refuses(t, q, api.ErrState)
		q.touched = []api.Cell{at(0, 1)}
		gives(t, q, fetch(7, at(3, 0), at(4, 0)))
	}
}

// P14.1: of a bin that stands twice in a stack the lowest place counts, and the other one is put away like any.
func TestBinTwiceInAStack(t *testing.T) {
	q := question{c: back(mixed()), stacks: []api.Stack{pile(2, 2, 5, 7, 7)}, bin: 7, port: at(4, 0)}
	gives(t, q, away(7, at(2, 2), at(2, 1)), fetch(7, at(2, 2), at(4, 0)), again(7, at(2, 1), at(2, 2)))
	q.stacks = []api.Stack{pile(2, 2, 7, 5, 7)}
	gives(t, q, away(7, at(2, 2), at(2, 1)), away(5, at(2, 2), at(2, 1)), fetch(7, at(2, 2), at(4, 0)), again(5, at(2, 1), at(2, 2)), again(7, at(2, 1), at(2, 2)))
}

// P14.1: of two stacks for one cell the first counts, an empty one too: for where the bin is, and for what room there is.
func TestTwoStacksForOneCell(t *testing.T) {
	q := question{c: mixed(), stacks: []api.Stack{pile(2, 2, 7, 8), pile(2, 2, 9, 7, 6)}, bin: 7, port: at(4, 0)}
	gives(t, q, away(8, at(2, 2), at(2, 1)), fetch(7, at(2, 2), at(4, 0)))
	q.bin = 9
	refuses(t, q, api.ErrBin)
	q.stacks = []api.Stack{pile(2, 2), pile(2, 2, 9)}
	refuses(t, q, api.ErrBin)
	q.bin, q.stacks = 7, []api.Stack{pile(2, 2, 7, 8), pile(2, 1), pile(2, 1, 1, 2, 3)}
	gives(t, q, away(8, at(2, 2), at(2, 1)), fetch(7, at(2, 2), at(4, 0)))
	q.stacks = []api.Stack{pile(2, 1, 1, 2, 3), pile(2, 2, 7, 8), pile(2, 1)}
	gives(t, q, away(8, at(2, 2), at(3, 2)), fetch(7, at(2, 2), at(4, 0)))
}

// P14.1: a bin that stands only where no stack cell is (a port, a home, a blocked cell, one that nobody can serve, out of the grid) stands nowhere.
func TestStacksElsewhere(t *testing.T) {
	others := []api.Cell{at(0, 0), at(4, 0), at(0, 2), at(1, 2), at(3, 1), at(4, 2), at(-1, 0), at(0, -1), at(5, 0), at(0, 3), at(6, 1), at(math.MaxInt, math.MinInt), at(1, math.MaxInt)}
	var l []api.Stack
	for _, c := range others {
		q := question{c: mixed(), stacks: []api.Stack{{At: c, Bins: []int{7}}}, bin: 7, port: at(4, 0)}
		refuses(t, q, api.ErrBin)
		l = append(l, api.Stack{At: c, Bins: []int{7, 1, 2, 3, 4}})
	}
	q := question{c: mixed(), stacks: l, bin: 7, port: at(4, 0)}
	refuses(t, q, api.ErrBin)
	// They are in nobody's way either, and what stands there takes no room.
	q.stacks = append(l, pile(2, 2, 7, 8))
	gives(t, q, away(8, at(2, 2), at(2, 1)), fetch(7, at(2, 2), at(4, 0)))
	q.stacks = append([]api.Stack{pile(2, 2, 7, 8)}, l...)
	gives(t, q, away(8, at(2, 2), at(2, 1)), fetch(7, at(2, 2), at(4, 0)))
}

// P14.1: the config's own stacks are not asked.
func TestStacksOfTheConfig(t *testing.T) {
	q := question{c: mixed(), stacks: []api.Stack{pile(2, 2, 7, 8)}, bin: 7, port: at(4, 0)}
	q.c.Stacks = []api.Stack{pile(2, 1, 1, 2, 3), pile(1, 0, 7), pile(3, 2, 9)}
	gives(t, q, away(8, at(2, 2), at(2, 1)), fetch(7, at(2, 2), at(4, 0)))
	q.bin = 9
	refuses(t, q, api.ErrBin)
}

// P14.1: a stack may have more than Height bins: it is no place, and all above the bin are put away.
func TestStacksAboveHeight(t *testing.T) {
	q := question{c: back(mixed()), stacks: []api.Stack{pile(2, 1, 1, 2, 3, 4, 5), pile(2, 2, 6, 7, 8, 9, 10, 11)}, bin: 7, port: at(4, 0)}
	from := at(2, 2)
	gives(t, q,
		away(11, from, at(3, 2)), away(10, from, at(3, 2)), away(9, from, at(3, 2)), away(8, from, at(2, 0)), fetch(7, from, at(4, 0)),
		again(8, at(2, 0), from), again(9, at(3, 2), from), again(10, at(3, 2), from), again(11, at(3, 2), from))
	// As many as there is room for, and one more.
	high := pile(2, 2, 7)
	for i := range 24 {
		high.Bins = append(high.Bins, 100+i)
	}
	q.stacks = []api.Stack{high}
	if l, e := q.jobs(); e != api.OK || len(l) != 49 {
		t.Error(l, e)
	}
	q.stacks[0].Bins = append(high.Bins, 200)
	refuses(t, q, api.ErrRoom)
	q.bin = 100
	if l, e := q.jobs(); e != api.OK || len(l) != 49 {
		t.Error(l, e)
	}
}

// P14.1: touched cells are no places; those that are no stack cells, or twice there, are nothing else than none.
func TestJobsTouched(t *testing.T) {
	want := []api.Job{away(9, at(1, 1), at(1, 0)), fetch(8, at(1, 1), at(0, 0))}
	for _, l := range [][]api.Cell{
		nil,
		{},
		{at(0, 0), at(4, 0)},
		{at(0, 2), at(3, 1), at(4, 2), at(4, 2)},
		{at(-1, 0), at(5, 1), at(1, -1), at(math.MinInt, 1), at(1, math.MaxInt)},
		{at(0, 1), at(0, 1), at(2, 1)},
	} {
		q := one(mixed(), 8)
		q.touched = l
		gives(t, q, want...)
	}
	q := one(mixed(), 8)
	for _, x := range []struct{ touched, then api.Cell }{
		{at(1, 0), at(0, 1)}, {at(0, 1), at(2, 1)}, {at(2, 1), at(2, 0)}, {at(2, 0), at(2, 2)}, {at(2, 2), at(3, 0)}, {at(3, 0), at(4, 1)}, {at(4, 1), at(3, 2)},
	} {
		// The newest in the midst, and twice.
		q.touched = append(append([]api.Cell{x.touched}, q.touched...), x.touched)
		gives(t, q, away(9, at(1, 1), x.then), fetch(8, at(1, 1), at(0, 0)))
	}
	q.touched = append(q.touched, at(3, 2))
	refuses(t, q, api.ErrRoom)
}

// P14.1: the errors and jobs are those of the chapter's words done plainly, in hives as luck has them, stacks anywhere.
func TestJobsByTheWords(t *testing.T) {
	var luck chance = 3
	count := map[api.Errno]int{}
	long := 0
	for range 40000 {
		q := drawWild(&luck)
		if luck.below(40) == 0 {
			q.c.Hoist = 0
		}
		want, e := plainJobs(q)
		count[e]++
		if len(want) > 3 {
			long++
		}
		if e != api.OK {
			refuses(t, q, e)
			continue
		}
		gives(t, q, want...)
	}
	for _, e := range []api.Errno{api.OK, api.ErrConf, api.ErrPort, api.ErrBin, api.ErrState, api.ErrRoom} {
		if count[e] < 100 {
			t.Errorf("error %d: %d times", e, count[e])
		}
	}
	if long < 500 {
		t.Errorf("%d of more than three jobs", long)
	}
}
