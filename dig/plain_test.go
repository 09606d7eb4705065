package dig_test

import (
	"math"
	"slices"
	"testing"

	"skep/api"
	"skep/dig"
	"skep/grid"
)

// chance is numbers that look like any, the same at each run.
type chance uint64

func (c *chance) below(n int) int {
	*c = *c*6364136223846793005 + 1442695040888963407
	return int(uint64(*c)>>33) % n
}

// ends is numbers near the ends of their range, near powers of two, and near those up to which Away reckons.
func ends() []int {
	out := []int{math.MinInt, math.MinInt + 1, math.MaxInt - 1, math.MaxInt}
	for _, i := range []int{8, 16, 31, 32, 40, 61, 62} {
		out = append(out, 1<<i, 1<<i+1, -1<<i, -1<<i-1)
	}
	return out
}

func at(x, y int) api.Cell { return api.Cell{X: x, Y: y} }

// pile is a stack.
func pile(x, y int, bins ...int) api.Stack { return api.Stack{At: at(x, y), Bins: bins} }

// bare is a config of nothing but cells.
func bare(w, h, height int) api.Conf {
	return api.Conf{W: w, H: h, Height: height, Unit: 10, Accel: 2, Speed: 4, Turn: 5, Hoist: 6, Queue: 4, Resend: 20, Budget: 500}
}

// mixed is a config with cells of all kinds, without bins:
//
//	p s s s p
//	s s s # s
//	h h s s .
func mixed() api.Conf {
	c := bare(5, 3, 3)
	c.Blocked = []api.Cell{at(3, 1)}
	c.Ports = []api.Cell{at(4, 0), at(0, 0)}
	c.Robots = []api.Pose{{At: at(0, 2)}}
	return c
}

// stackCells is those of mixed, in order.
func stackCells() []api.Cell {
	return []api.Cell{at(1, 0), at(2, 0), at(3, 0), at(0, 1), at(1, 1), at(2, 1), at(4, 1), at(2, 2), at(3, 2)}
}

// back is a config with Back set.
func back(c api.Conf) api.Conf {
	c.Back = true
	return c
}

// question is what Jobs is asked.
type question struct {
	c       api.Conf
	stacks  []api.Stack
	touched []api.Cell
	bin     int
	port    api.Cell
}

func (q question) jobs() ([]api.Job, api.Errno) {
	return dig.Jobs(q.c, q.stacks, q.touched, q.bin, q.port)
}

// away, fetch and again are jobs, as they are told.
func away(bin int, from, to api.Cell) api.Job {
	return api.Job{Kind: 1, Bin: bin, From: from, To: to, Robot: -1}
}

func fetch(bin int, from, to api.Cell) api.Job {
	return api.Job{Kind: 2, Bin: bin, From: from, To: to, Robot: -1}
}

func again(bin int, from, to api.Cell) api.Job {
	return api.Job{Kind: 3, Bin: bin, From: from, To: to, Robot: -1}
}

// gives fails unless Jobs answers just these.
func gives(t *testing.T, q question, want ...api.Job) {
	t.Helper()
	got, e := q.jobs()
	if e != api.OK || !slices.Equal(got, want) {
		t.Fatalf("%+v:\n%v, error %d; want\n%v", q, got, e, want)
	}
}

// refuses fails unless Jobs answers just this error.
func refuses(t *testing.T, q question, e api.Errno) {
	t.Helper()
	if got, ge := q.jobs(); ge != e || len(got) != 0 {
		t.Fatalf("%+v:\n%v, error %d; want error %d", q, got, ge, e)
	}
}

// puts fails unless Place answers just this.
func puts(t *testing.T, c api.Conf, stacks []api.Stack, touched []api.Cell, from, want api.Cell, e api.Errno) {
	t.Helper()
	if got, ge := dig.Place(c, stacks, touched, from); ge != e || got != want {
		t.Fatalf("Place of %v with %v, touched %v, in %+v: %v, error %d; want %v, error %d", from, stacks, touched, c, got, ge, want, e)
	}
}

// binsAt is what stands at a cell, by the chapter's words.
func binsAt(stacks []api.Stack, c api.Cell) []int {
	for _, s := range stacks {
		if s.At == c {
			return s.Bins
		}
	}
	return nil
}

// plainPlace is the place for a bin from a cell, by the chapter's words; given is how many each cell was given already.
func plainPlace(c api.Conf, stacks []api.Stack, touched []api.Cell, from api.Cell, given map[api.Cell]int) (api.Cell, bool) {
	g, _ := grid.New(c)
	var best api.Cell
	found := false
	for y := range c.H {
		for x := range c.W {
			p := at(x, y)
			if !g.Stacked(p) || p == from || slices.Contains(touched, p) || len(binsAt(stacks, p))+given[p] >= c.Height {
				continue
			}
			if !found || grid.Away(p, from) < grid.Away(best, from) {
				best, found = p, true
			}
		}
	}
	return best, found
}

// plainJobs is what a question's answer must be, by the chapter's words.
func plainJobs(q question) ([]api.Job, api.Errno) {
	g, e := grid.New(q.c)
	if e != api.OK {
		return nil, api.ErrConf
	}
	if !slices.Contains(q.c.Ports, q.port) {
		return nil, api.ErrPort
	}
	from, low := at(-1, -1), -1
	for y := range q.c.H {
		for x := range q.c.W {
			for i, b := range binsAt(q.stacks, at(x, y)) {
				if b == q.bin && low < 0 && g.Stacked(at(x, y)) {
					from, low = at(x, y), i
				}
			}
		}
	}
	if low < 0 {
		return nil, api.ErrBin
	}
	if slices.Contains(q.touched, from) {
		return nil, api.ErrState
	}
	var first, last []api.Job
	given := map[api.Cell]int{}
	bins := binsAt(q.stacks, from)
	for i := len(bins) - 1; i > low; i-- {
		p, ok := plainPlace(q.c, q.stacks, q.touched, from, given)
		if !ok {
			return nil, api.ErrRoom
		}
		given[p]++
		first = append(first, away(bins[i], from, p))
		last = append([]api.Job{again(bins[i], p, from)}, last...)
	}
	first = append(first, fetch(q.bin, from, q.port))
	if q.c.Back {
		first = append(first, last...)
	}
	return first, api.OK
}

// drawConf is a small hive with cells of all kinds, without bins, and with at least one port and one robot.
func drawConf(luck *chance, side int) api.Conf {
	for {
		c := bare(1+luck.below(side), 1+luck.below(side), 1+luck.below(4))
		c.Back = luck.below(2) == 0
		cell := func() api.Cell { return at(luck.below(c.W), luck.below(c.H)) }
		for range luck.below(4) {
			c.Blocked = append(c.Blocked, cell())
		}
		for range 1 + luck.below(2) {
			c.Ports = append(c.Ports, cell())
		}
		for range 1 + luck.below(2) {
			c.Robots = append(c.Robots, api.Pose{At: cell(), Down: luck.below(2) == 0})
		}
		if grid.May(c) {
			return c
		}
	}
}

// near is a cell in a grid or close by.
func near(luck *chance, c api.Conf) api.Cell {
	return at(luck.below(c.W+2)-1, luck.below(c.H+2)-1)
}

// drawWild is a question with stacks anywhere, cells and bins more than once among them.
func drawWild(luck *chance) question {
	q := question{c: drawConf(luck, 5)}
	for range luck.below(q.c.W*q.c.H + 3) {
		s := api.Stack{At: near(luck, q.c)}
		for range luck.below(q.c.Height + 2) {
			s.Bins = append(s.Bins, luck.below(20))
		}
		q.stacks = append(q.stacks, s)
	}
	for range luck.below(5) {
		q.touched = append(q.touched, near(luck, q.c))
	}
	q.bin, q.port = luck.below(20), q.c.Ports[luck.below(len(q.c.Ports))]
	// At times so many beside the bin that there is hardly any room.
	for i := range luck.below(3) / 2 * q.c.W * q.c.H {
		c := at(i%q.c.W, i/q.c.W)
		if luck.below(5) > 0 && !slices.Contains(binsAt(q.stacks, c), q.bin) {
			q.touched = append(q.touched, c)
		}
	}
	if luck.below(6) == 0 {
		q.port = near(luck, q.c)
	}
	return q
}

// drawTame is a question with stacks that the config could have, and a bin that stands in one of them (0, if there is none).
func drawTame(luck *chance, side int) question {
	q := question{c: drawConf(luck, side)}
	g, _ := grid.New(q.c)
	next := 1
	for c := range g.Stacks() {
		s := api.Stack{At: c}
		for range luck.below(q.c.Height + 1) {
			s.Bins = append(s.Bins, next)
			next += 1 + luck.below(3)
		}
		q.stacks = append(q.stacks, s)
		if len(s.Bins) > 0 && (q.bin == 0 || luck.below(4) == 0) {
			q.bin = s.Bins[luck.below(len(s.Bins))]
		}
	}
	for range luck.below(4) {
		q.touched = append(q.touched, near(luck, q.c))
	}
	q.port = q.c.Ports[luck.below(len(q.c.Ports))]
	return q
}
