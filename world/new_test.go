package world_test

import (
	"math"
	"slices"
	"testing"

	"skep/api"
	"skep/grid"
	"skep/world"
)

// P19.1: New of configs that may not be: grid's error, and nil.
func TestNewRefuses(t *testing.T) {
	for what, turn := range map[string]func(c *api.Conf){
		"nothing":                      func(c *api.Conf) { *c = api.Conf{} },
		"no cells":                     func(c *api.Conf) { c.W = 0 },
		"sides whose product wraps":    func(c *api.Conf) { c.W, c.H = math.MinInt, 2 },
		"a side beyond":                func(c *api.Conf) { c.H = 17 },
		"no height":                    func(c *api.Conf) { c.Height = 0 },
		"no unit":                      func(c *api.Conf) { c.Unit = 0 },
		"a speed beyond":               func(c *api.Conf) { c.Speed = 1001 },
		"no budget":                    func(c *api.Conf) { c.Budget = 0 },
		"a blocked port":               func(c *api.Conf) { c.Blocked = append(c.Blocked, at(0, 0)) },
		"a port on a home":             func(c *api.Conf) { c.Ports[1] = at(5, 2) },
		"robots with a cell in common": func(c *api.Conf) { c.Robots[1] = to(1, 1) },
		"a robot half out":             func(c *api.Conf) { c.Robots[2] = to(5, 1) },
		"a robot far out":              func(c *api.Conf) { c.Robots[0] = to(math.MaxInt, math.MinInt) },
		"a stack on a port":            func(c *api.Conf) { c.Stacks[0].At = at(0, 4) },
		"a stack on a home":            func(c *api.Conf) { c.Stacks[0].At = at(5, 2) },
		"a stack too high":             func(c *api.Conf) { c.Height = 1 },
		"a bin twice":                  func(c *api.Conf) { c.Stacks[1].Bins = []int{8} },
		"a bin 0":                      func(c *api.Conf) { c.Stacks[1].Bins = []int{0} },
	} {
		c := yard()
		turn(&c)
		_, want := grid.New(c)
		if w, e := world.New(c); w != nil || e != want || e != api.ErrConf {
			t.Errorf("%s: %v, error %d, want nil and %d", what, w, e, want)
		}
	}
}

// P19.1: what is told of configs of all shapes, as they are made: the robots at home without a load, the bins in their stacks, the time 0, nothing seen.
func TestNew(t *testing.T) {
	for _, c := range confs() {
		same(t, made(t, c), modelOf(c))
	}
}

// P19.1: a config whose answers are written out.
func TestNewWrittenOut(t *testing.T) {
	w := made(t, yard())
	if w.Now() != 0 || len(w.Sights()) != 0 {
		t.Errorf("the time %d, seen %+v", w.Now(), w.Sights())
	}
	for i, want := range map[int]api.Pose{0: to(0, 1), 1: to(1, 4), 2: down(5, 1)} {
		if p, load, ok := w.Robot(i); p != want || load != 0 || !ok {
			t.Errorf("robot %d: %v, %d, %v", i, p, load, ok)
		}
		if m, ok := w.Under(i); m != (api.Move{}) || ok {
			t.Errorf("under way for %d: %+v, %v", i, m, ok)
		}
	}
	for c, want := range map[api.Cell][]int{at(1, 0): {7, 8}, at(2, 0): {9}, at(3, 1): {5, 3}, at(4, 3): nil, at(0, 0): nil, at(2, 2): nil, at(-1, 0): nil, at(7, 0): nil} {
		if got := w.At(c); !slices.Equal(got, want) {
			t.Errorf("At %v: %v, want %v", c, got, want)
		}
	}
	if got := w.Bins(); !slices.Equal(got, []int{3, 5, 7, 8, 9}) {
		t.Errorf("Bins: %v", got)
	}
}

// P19.1: robots that there are not have no pose, no load and nothing under way, whatever the others do.
func TestNoSuchRobot(t *testing.T) {
	for _, c := range confs() {
		w := made(t, c)
		for i, p := range c.Robots {
			begins(t, w, i, 1, lifts(p, 6))
		}
		for _, i := range append(ends(), -8, -1, len(c.Robots), len(c.Robots)+1) {
			if p, load, ok := w.Robot(i); p != (api.Pose{}) || load != 0 || ok {
				t.Errorf("robot %d: %v, %d, %v", i, p, load, ok)
			}
			if m, ok := w.Under(i); m != (api.Move{}) || ok {
				t.Errorf("under way for %d: %+v, %v", i, m, ok)
			}
		}
	}
}

// P19.1: the last of eight robots is one too.
func TestLastRobot(t *testing.T) {
	w := made(t, confs()[2])
	if p, _, ok := w.Robot(7); p != to(14, 0) || !ok {
		t.Fatalf("%v, %v", p, ok)
	}
	m := runs(to(14, 0), api.South, 1, 4)
	begins(t, w, 7, 1, m)
	if got, ok := w.Under(7); got != m || !ok {
		t.Errorf("under way: %+v, %v", got, ok)
	}
	rests(t, w, 3)
	ticks(t, w, []api.Tele{acks(7, 0, 1)}, end(7, m))
	if p, _, ok := w.Robot(7); p != to(14, 1) || !ok {
		t.Errorf("%v, %v", p, ok)
	}
}

// P19.1: Under is the move as it was given till its end, each robot's own; while it is under way the robot is where it was.
func TestUnder(t *testing.T) {
	w := made(t, yard())
	// A turn that leads out of the grid is not begun.
	hears(t, w, goes(2, 0, 1, turns(down(5, 1), 3)), nil)
	if _, ok := w.Under(2); ok {
		t.Error("a turn out of the grid is under way")
	}
	first := runs(to(0, 1), api.South, 2, 5)
	begins(t, w, 0, 1, first)
	for range 5 {
		if m, ok := w.Under(0); m != first || !ok {
			t.Errorf("under way: %+v, %v", m, ok)
		}
		if p, _, _ := w.Robot(0); p != to(0, 1) {
			t.Errorf("it is at %v", p)
		}
		if m, ok := w.Under(1); m != (api.Move{}) || ok {
			t.Errorf("under way for 1: %+v, %v", m, ok)
		}
		w.Tick()
	}
	if m, ok := w.Under(0); m != (api.Move{}) || ok {
		t.Errorf("behind its end: %+v, %v", m, ok)
	}
	if p, _, _ := w.Robot(0); p != to(0, 3) {
		t.Errorf("it is at %v", p)
	}
}

// P19.1: Under of a move that was cut: to fewer cells, as it was given else.
func TestUnderCut(t *testing.T) {
	w := made(t, yard())
	m := runs(to(1, 4), api.East, 3, 12)
	begins(t, w, 1, 1, m)
	rests(t, w, 1)
	hears(t, w, stops(1, 1), nil)
	cut := m
	cut.N, cut.To = 1, to(2, 4)
	if got, ok := w.Under(1); got != cut || !ok {
		t.Errorf("under way: %+v, %v, want %+v", got, ok, cut)
	}
	if p, _, _ := w.Robot(1); p != to(1, 4) {
		t.Errorf("it is at %v", p)
	}
}

// P19.1: At and Bins tell of bins in stacks, at ports and on robots; of those on robots Bins alone.
func TestBinsWhereverTheyAre(t *testing.T) {
	w := made(t, yard())
	all := func(stack, port []int) {
		t.Helper()
		if !slices.Equal(w.At(at(1, 0)), stack) || !slices.Equal(w.At(at(0, 0)), port) {
			t.Errorf("%v, %v, want %v, %v", w.At(at(1, 0)), w.At(at(0, 0)), stack, port)
		}
		if !slices.Equal(w.Bins(), []int{3, 5, 7, 8, 9}) {
			t.Errorf("Bins: %v", w.Bins())
		}
	}
	all([]int{7, 8}, nil)
	does(t, w, 0, 1, runs(to(0, 1), api.North, 1, 4))
	does(t, w, 0, 2, runs(to(0, 0), api.East, 1, 4))
	does(t, w, 0, 3, lifts(to(1, 0), 6), of(api.SeLift, 0, 8, to(1, 0)))
	all([]int{7}, nil)
	does(t, w, 0, 4, runs(to(1, 0), api.West, 1, 4))
	all([]int{7}, nil)
	does(t, w, 0, 5, drops(to(0, 0), 6), of(api.SeDrop, 0, 8, to(0, 0)), of(api.SeDeliver, 0, 8, to(0, 0)))
	all([]int{7}, []int{8})
	does(t, w, 0, 6, lifts(to(0, 0), 6), of(api.SeLift, 0, 8, to(0, 0)))
	all([]int{7}, nil)
}

// P19.1: Now is how many ticks went by, and nothing else turns it; Sights is all, from the first on.
func TestNowAndSights(t *testing.T) {
	w := made(t, yard())
	for i := range 50 {
		if w.Now() != i {
			t.Fatalf("Now: %d, want %d", w.Now(), i)
		}
		w.Hear(stops(i%3, i+1))
		w.Delay(i%3, 5)
		if len(w.Sights()) != i+1 || w.Now() != i {
			t.Fatalf("at %d: %d sights at %d", i, len(w.Sights()), w.Now())
		}
		w.Tick()
	}
	for i, s := range w.Sights() {
		if want := (api.Sight{Kind: api.SeHalt, Tick: i, Robot: i % 3, Pose: yard().Robots[i%3]}); s != want {
			t.Errorf("sight %d: %+v, want %+v", i, s, want)
		}
	}
}
