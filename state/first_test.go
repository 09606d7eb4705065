package state_test

import (
	"math"
	"testing"

	"skep/api"
	"skep/state"
)

// firstIs fails unless First answers just this, and Check allows it.
func firstIs(t *testing.T, c api.Conf, want api.State) {
	t.Helper()
	s, e := state.First(c)
	if e != api.OK {
		t.Fatalf("error %d", e)
	}
	same(t, s, want)
	if !state.Check(c, s) {
		t.Errorf("Check does not allow %+v", s)
	}
}

// P16.1: each field, of a hive with bins, ports and robots: stacks in the order of cells, not in the config's; ports and robots in the config's.
func TestFirst(t *testing.T) {
	firstIs(t, three(), api.State{
		Stacks: []api.Stack{pile(1, 0, 10), pile(2, 0), pile(4, 0), pile(0, 1), pile(1, 1, 4, 5, 6), pile(2, 1, 7, 8, 9), pile(4, 1, 1, 2, 3), pile(5, 1), pile(2, 2, 11, 12), pile(3, 2)},
		Robots: []api.Robot{{At: flat(0, 2)}, {At: flat(4, 2)}},
		Ports:  []api.Port{{}, {}, {}}, NextOrder: 1, NextJob: 1,
	})
}

// P16.1: without bins, without ports, without robots, without all of them; a stack of the config without bins; none at all.
func TestFirstOfLess(t *testing.T) {
	c := three()
	c.Stacks = []api.Stack{pile(4, 0), pile(2, 2, 1000000000)}
	firstIs(t, c, api.State{
		Stacks: []api.Stack{pile(1, 0), pile(2, 0), pile(4, 0), pile(0, 1), pile(1, 1), pile(2, 1), pile(4, 1), pile(5, 1), pile(2, 2, 1000000000), pile(3, 2)},
		Robots: []api.Robot{{At: flat(0, 2)}, {At: flat(4, 2)}},
		Ports:  []api.Port{{}, {}, {}}, NextOrder: 1, NextJob: 1,
	})
	c = bare(2, 2, 1, 1)
	firstIs(t, c, api.State{Stacks: []api.Stack{pile(0, 0), pile(1, 0), pile(0, 1)}, NextOrder: 1, NextJob: 1})
	c.Ports = []api.Cell{at(1, 0)}
	firstIs(t, c, api.State{Stacks: []api.Stack{pile(0, 0), pile(0, 1)}, Ports: []api.Port{{}}, NextOrder: 1, NextJob: 1})
	c.Ports, c.Robots = nil, []api.Pose{down(1, 0)}
	firstIs(t, c, api.State{Stacks: []api.Stack{pile(0, 0), pile(0, 1)}, Robots: []api.Robot{{At: down(1, 0)}}, NextOrder: 1, NextJob: 1})
	c = bare(1, 1, 1, 1)
	firstIs(t, c, api.State{NextOrder: 1, NextJob: 1})
	c.W, c.Robots = 2, []api.Pose{flat(0, 0)}
	firstIs(t, c, api.State{Robots: []api.Robot{{At: flat(0, 0)}}, NextOrder: 1, NextJob: 1})
}

// wrongConfs is configs that may not be.
func wrongConfs() []api.Conf {
	turned := func(turn func(*api.Conf)) api.Conf {
		c := three()
		turn(&c)
		return c
	}
	return []api.Conf{
		{},
		turned(func(c *api.Conf) { c.W = 0 }),
		turned(func(c *api.Conf) { c.H = math.MaxInt }),
		turned(func(c *api.Conf) { c.Height = 9 }),
		turned(func(c *api.Conf) { c.Height = 2 }),
		turned(func(c *api.Conf) { c.Accel = 1001 }),
		turned(func(c *api.Conf) { c.Queue = -1 }),
		turned(func(c *api.Conf) { c.Blocked[0] = at(3, 0) }),
		turned(func(c *api.Conf) { c.Ports[1] = at(0, 2) }),
		turned(func(c *api.Conf) { c.Robots[1] = flat(1, 2) }),
		turned(func(c *api.Conf) { c.Robots[1] = flat(5, 2) }),
		turned(func(c *api.Conf) { c.Stacks[0].At = at(0, 0) }),
		turned(func(c *api.Conf) { c.Stacks[0].Bins[0] = 12 }),
		turned(func(c *api.Conf) { c.Stacks[4].At = at(1, 0) }),
		turned(func(c *api.Conf) { c.Budget = 0 }),
	}
}

// P16.1 to P16.5: a config that may not be: ErrConf ahead of all else, no state, no table, false, none.
func TestWrongConfs(t *testing.T) {
	s := plainFirst(three())
	for i, c := range wrongConfs() {
		if got, e := state.First(c); e != api.ErrConf {
			t.Errorf("%d: error %d", i, e)
		} else {
			same(t, got, api.State{})
		}
		if state.Check(c, s) || state.Check(c, plainFirst(bare(1, 1, 1, 1))) || state.Check(c, api.State{}) {
			t.Errorf("%d: Check", i)
		}
		if table, e := state.Table(c, s); table != nil || e != api.ErrConf {
			t.Errorf("%d: Table: error %d", i, e)
		}
		if state.Turn(c, s, 0) {
			t.Errorf("%d: Turn", i)
		}
		for _, e := range []api.Event{evOrder(7, 0), evStop(), {}, evGo(9), evBegin(3)} {
			refuses(t, c, s, e, api.ErrConf)
		}
		if got, n := state.Fold(c, s, []api.Event{evOrder(7, 0)}); n != 0 {
			t.Errorf("%d: Fold: %d", i, n)
		} else {
			same(t, got, s)
		}
	}
}

// The chapter's example.
func TestExample(t *testing.T) {
	c := bare(4, 2, 2, 1)
	c.Ports, c.Robots, c.Stacks = []api.Cell{at(3, 0)}, []api.Pose{flat(0, 1)}, []api.Stack{pile(1, 0, 7)}
	s, e := state.First(c)
	if e != api.OK {
		t.Fatal(e)
	}
	s = goes(t, c, s, evOrder(7, 0))
	if len(s.Orders) != 1 || s.Orders[0] != (api.Order{ID: 1, Bin: 7}) {
		t.Errorf("%+v", s.Orders)
	}
	s = goes(t, c, s, evBegin(1))
	if s.Orders[0].State != api.Active || len(s.Jobs) != 1 || s.Jobs[0] != (api.Job{ID: 1, Kind: api.Fetch, Order: 1, Bin: 7, From: at(1, 0), To: at(3, 0), Robot: -1}) {
		t.Errorf("%+v", s)
	}
}
