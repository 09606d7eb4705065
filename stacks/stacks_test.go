package stacks_test

import (
	"math"
	"slices"
	"testing"

	"skep/api"
	"skep/grid"
	"skep/stacks"
)

// lifts fails unless a lift answers as wanted.
func lifts(t *testing.T, s *stacks.Stacks, robot int, c api.Cell, bin int, want api.Errno) {
	t.Helper()
	if got, e := s.Lift(robot, c); got != bin || e != want {
		t.Fatalf("Lift %d, %v: %d, error %d, want %d, error %d", robot, c, got, e, bin, want)
	}
}

// drops fails unless a drop answers as wanted.
func drops(t *testing.T, s *stacks.Stacks, robot int, c api.Cell, want api.Errno) {
	t.Helper()
	if e := s.Drop(robot, c); e != want {
		t.Fatalf("Drop %d, %v: error %d, want %d", robot, c, e, want)
	}
}

// stands fails unless these bins stand there.
func stands(t *testing.T, s *stacks.Stacks, c api.Cell, bins ...int) {
	t.Helper()
	top := 0
	if len(bins) > 0 {
		top = bins[len(bins)-1]
	}
	if s.Height(c) != len(bins) || s.Top(c) != top || !slices.Equal(s.At(c), bins) {
		t.Fatalf("%v: %d high, %d on top, %v; want %v", c, s.Height(c), s.Top(c), s.At(c), bins)
	}
}

// P8.1: New of configs that may not be: grid's error.
func TestNewRefuses(t *testing.T) {
	for what, turn := range map[string]func(c *api.Conf){
		"nothing":                      func(c *api.Conf) { *c = api.Conf{} },
		"no cells":                     func(c *api.Conf) { c.W = 0 },
		"sides whose product wraps":    func(c *api.Conf) { c.W, c.H = math.MinInt, 2 },
		"a side beyond":                func(c *api.Conf) { c.H = 17 },
		"no height":                    func(c *api.Conf) { c.Height = 0 },
		"a height beyond":              func(c *api.Conf) { c.Height = 9 },
		"no budget":                    func(c *api.Conf) { c.Budget = 0 },
		"a stack on a blocked cell":    func(c *api.Conf) { c.Stacks[0].At = at(2, 1) },
		"a stack on a port":            func(c *api.Conf) { c.Stacks[0].At = at(5, 0) },
		"a stack on a home":            func(c *api.Conf) { c.Stacks[0].At = at(0, 0) },
		"a stack that none can serve":  func(c *api.Conf) { c.Stacks[0].At = at(5, 4) },
		"a stack out of the grid":      func(c *api.Conf) { c.Stacks[0].At = at(math.MaxInt, math.MinInt) },
		"a stack too high":             func(c *api.Conf) { c.Height = 2 },
		"a bin twice":                  func(c *api.Conf) { c.Stacks[1].Bins = []int{8} },
		"a bin 0":                      func(c *api.Conf) { c.Stacks[1].Bins = []int{0} },
		"a blocked port":               func(c *api.Conf) { c.Blocked = append(c.Blocked, at(5, 0)) },
		"robots with a cell in common": func(c *api.Conf) { c.Robots = append(c.Robots, down(0, 0)) },
		"a stack twice, without bins":  func(c *api.Conf) { c.Stacks = append(c.Stacks, api.Stack{At: at(1, 3)}) },
	} {
		c := busy()
		turn(&c)
		_, want := grid.New(c)
		if s, e := stacks.New(c); s != nil || e != want || e != api.ErrConf {
			t.Errorf("%s: %v, error %d, want nil and %d", what, s, e, want)
		}
	}
}

// P8.1, P8.3: what is told of each cell and robot of some configs, as they are made.
func TestNew(t *testing.T) {
	for _, c := range append(confs(), full()) {
		same(t, made(t, c), modelOf(c))
	}
}

// P8.1: a config whose answers are written out.
func TestNewWrittenOut(t *testing.T) {
	s := made(t, busy())
	stands(t, s, at(3, 0), 7, 8)
	stands(t, s, at(0, 2), 1, 1000000000, 5)
	stands(t, s, at(4, 4), 3)
	for _, c := range []api.Cell{at(1, 3), at(2, 0), at(5, 0), at(0, 4), at(1, 1), at(0, 0), at(1, 0), at(5, 2), at(5, 3), at(5, 4), at(2, 4), at(3, 3)} {
		stands(t, s, c)
	}
	for _, c := range []api.Cell{at(2, 1), at(4, 3), at(3, 4), at(-1, 0), at(0, -1), at(6, 0), at(0, 5), at(6, 5), at(-1, 1), at(math.MaxInt, 0), at(0, math.MinInt), at(1<<62, 1<<62), at(-3, 1)} {
		if s.Height(c) != -1 || s.Top(c) != 0 || len(s.At(c)) != 0 {
			t.Errorf("%v: %d high, %d on top, %v", c, s.Height(c), s.Top(c), s.At(c))
		}
	}
	for _, r := range []int{math.MinInt, -1, 0, 1, 2, math.MaxInt} {
		if s.Load(r) != 0 {
			t.Errorf("Load %d: %d", r, s.Load(r))
		}
	}
	lifts(t, s, 1, at(3, 0), 8, api.OK)
	for _, x := range []struct{ robot, want int }{{-2, 0}, {-1, 0}, {0, 0}, {1, 8}, {2, 0}, {math.MaxInt, 0}, {math.MinInt + 1, 0}} {
		if got := s.Load(x.robot); got != x.want {
			t.Errorf("Load %d: %d, want %d", x.robot, got, x.want)
		}
	}
}

// The chapter's example.
func TestExample(t *testing.T) {
	c := bare(2, 2)
	c.Robots = []api.Pose{to(0, 1)}
	c.Stacks = []api.Stack{{At: at(0, 0), Bins: []int{7, 8}}}
	s := made(t, c)
	if cell, above, ok := s.Find(7); cell != at(0, 0) || above != 1 || !ok {
		t.Error(cell, above, ok)
	}
	lifts(t, s, 0, at(0, 0), 8, api.OK)
	if s.Top(at(0, 0)) != 7 {
		t.Error(s.Top(at(0, 0)))
	}
}

// loaded is busy's stacks with bin 8 on robot 1 and bin 3 at the port 5, 0; robot 0 has none.
func loaded(t *testing.T) (*stacks.Stacks, *model) {
	t.Helper()
	s, m := made(t, busy()), modelOf(busy())
	lifts(t, s, 0, at(4, 4), 3, api.OK)
	drops(t, s, 0, at(5, 0), api.OK)
	lifts(t, s, 1, at(3, 0), 8, api.OK)
	m.lift(0, at(4, 4))
	m.drop(0, at(5, 0))
	m.lift(1, at(3, 0))
	same(t, s, m)
	return s, m
}

// P8.2: each error of Lift, and two grounds at once; none of them changes anything.
func TestLiftErrors(t *testing.T) {
	s, m := loaded(t)
	for _, x := range []struct {
		what  string
		robot int
		c     api.Cell
		want  api.Errno
	}{
		{"no such robot", 2, at(0, 2), api.ErrArg},
		{"robot -1", -1, at(0, 2), api.ErrArg},
		{"the least robot", math.MinInt, at(0, 2), api.ErrArg},
		{"a blocked cell", 0, at(2, 1), api.ErrArg},
		{"a cell out of the grid", 0, at(6, 0), api.ErrArg},
		{"a cell that a number of another row would be", 0, at(-3, 1), api.ErrArg},
		{"a cell far out", 0, at(0, math.MaxInt), api.ErrArg},
		{"no such robot, no such cell", 2, at(-1, 0), api.ErrArg},
		{"no such robot, none stands there", 2, at(2, 0), api.ErrArg},
		{"a blocked cell, it has a bin", 1, at(2, 1), api.ErrArg},
		{"it has a bin", 1, at(0, 2), api.ErrState},
		{"it has a bin, at a port", 1, at(5, 0), api.ErrState},
		{"it has a bin, none stands there", 1, at(2, 0), api.ErrState},
		{"it has a bin, none stands at the port", 1, at(0, 4), api.ErrState},
		{"it has a bin, at a home", 1, at(0, 0), api.ErrState},
		{"none stands on a stack cell", 0, at(2, 0), api.ErrNone},
		{"none stands there any more", 0, at(4, 4), api.ErrNone},
		{"none stands at a port", 0, at(0, 4), api.ErrNone},
		{"none stands at a home", 0, at(5, 3), api.ErrNone},
		{"none stands on another open cell", 0, at(5, 4), api.ErrNone},
	} {
		if bin, e := s.Lift(x.robot, x.c); bin != 0 || e != x.want {
			t.Errorf("%s: %d, error %d, want %d", x.what, bin, e, x.want)
		}
		same(t, s, m)
	}
}

// P8.2: each error of Drop, and two grounds at once; none of them changes anything.
func TestDropErrors(t *testing.T) {
	s, m := loaded(t)
	for _, x := range []struct {
		what  string
		robot int
		c     api.Cell
		want  api.Errno
	}{
		{"no such robot", 2, at(2, 0), api.ErrArg},
		{"robot -1", -1, at(2, 0), api.ErrArg},
		{"the greatest robot", math.MaxInt, at(2, 0), api.ErrArg},
		{"a blocked cell", 1, at(2, 1), api.ErrArg},
		{"a cell out of the grid", 1, at(0, 5), api.ErrArg},
		{"a cell that a number of another row would be", 1, at(8, 0), api.ErrArg},
		{"a cell far out", 1, at(math.MinInt, 0), api.ErrArg},
		{"no such robot, no such cell", -1, at(-1, 0), api.ErrArg},
		{"no such robot, no room", 2, at(0, 2), api.ErrArg},
		{"a blocked cell, it has none", 0, at(2, 1), api.ErrArg},
		{"it has none", 0, at(2, 0), api.ErrState},
		{"it has none, at a port", 0, at(0, 4), api.ErrState},
		{"it has none, no room on the stack", 0, at(0, 2), api.ErrState},
		{"it has none, no room at the port", 0, at(5, 0), api.ErrState},
		{"it has none, at a home", 0, at(0, 0), api.ErrState},
		{"Height bins", 1, at(0, 2), api.ErrFull},
		{"one at a port", 1, at(5, 0), api.ErrFull},
		{"its home", 1, at(5, 2), api.ErrFull},
		{"its home's other cell", 1, at(5, 3), api.ErrFull},
		{"another one's home", 1, at(0, 0), api.ErrFull},
		{"another one's home's other cell", 1, at(1, 0), api.ErrFull},
		{"a corner that is run over alone", 1, at(5, 4), api.ErrFull},
		{"a cell between blocked ones", 1, at(3, 3), api.ErrFull},
		{"a cell at the edge beside a blocked one", 1, at(2, 4), api.ErrFull},
	} {
		if e := s.Drop(x.robot, x.c); e != x.want {
			t.Errorf("%s: error %d, want %d", x.what, e, x.want)
		}
		same(t, s, m)
	}
}

// P8.2: room for Height bins, whatever Height is, and for one at a port.
func TestRoom(t *testing.T) {
	for height := 1; height <= 8; height++ {
		c := bare(5, 2)
		c.Height = height
		c.Ports = []api.Cell{at(3, 0)}
		c.Robots = []api.Pose{to(0, 1)}
		bins := []int{1, 2, 3, 4, 5, 6, 7, 8}[:height]
		c.Stacks = []api.Stack{{At: at(0, 0), Bins: bins}, {At: at(2, 0), Bins: []int{9}}, {At: at(4, 0), Bins: []int{10}}}
		s := made(t, c)
		lifts(t, s, 0, at(2, 0), 9, api.OK)
		drops(t, s, 0, at(0, 0), api.ErrFull)
		drops(t, s, 0, at(3, 0), api.OK)
		lifts(t, s, 0, at(4, 0), 10, api.OK)
		drops(t, s, 0, at(3, 0), api.ErrFull)
		drops(t, s, 0, at(4, 0), api.OK)
		for i := range height {
			lifts(t, s, 0, at(0, 0), bins[height-1-i], api.OK)
			drops(t, s, 0, at(1, 0), api.OK)
		}
		turned := slices.Clone(bins)
		slices.Reverse(turned)
		stands(t, s, at(0, 0))
		stands(t, s, at(1, 0), turned...)
		stands(t, s, at(3, 0), 9)
		lifts(t, s, 0, at(3, 0), 9, api.OK)
		drops(t, s, 0, at(1, 0), api.ErrFull)
		stands(t, s, at(3, 0))
	}
}

// P8.2: what is done is told by Height, Top, At, Load and Bins.
func TestDone(t *testing.T) {
	s := made(t, busy())
	all := []int{1, 3, 5, 7, 8, 1000000000}
	step := func(load0, load1 int) {
		t.Helper()
		if s.Load(0) != load0 || s.Load(1) != load1 || !slices.Equal(s.Bins(), all) {
			t.Fatalf("loads %d, %d, bins %v", s.Load(0), s.Load(1), s.Bins())
		}
	}
	step(0, 0)
	lifts(t, s, 0, at(0, 2), 5, api.OK)
	step(5, 0)
	stands(t, s, at(0, 2), 1, 1000000000)
	lifts(t, s, 1, at(0, 2), 1000000000, api.OK)
	step(5, 1000000000)
	stands(t, s, at(0, 2), 1)
	drops(t, s, 0, at(0, 2), api.OK)
	step(0, 1000000000)
	stands(t, s, at(0, 2), 1, 5)
	drops(t, s, 1, at(1, 1), api.OK)
	step(0, 0)
	stands(t, s, at(1, 1), 1000000000)
	lifts(t, s, 1, at(4, 4), 3, api.OK)
	drops(t, s, 1, at(3, 0), api.OK)
	step(0, 0)
	stands(t, s, at(4, 4))
	stands(t, s, at(3, 0), 7, 8, 3)
	lifts(t, s, 1, at(1, 1), 1000000000, api.OK)
	step(0, 1000000000)
	stands(t, s, at(1, 1))
	drops(t, s, 1, at(1, 3), api.OK)
	stands(t, s, at(1, 3), 1000000000)
	step(0, 0)
}

// walk lifts and drops at random, the model along with it, and calls behind each one.
func walk(t *testing.T, c api.Conf, steps int, luck *chance, behind func(s *stacks.Stacks, m *model)) map[api.Errno]int {
	t.Helper()
	s, m := made(t, c), modelOf(c)
	cells := append(inGrid(c), at(-1, 0), at(0, c.H), at(math.MaxInt, 0))
	told := map[api.Errno]int{}
	for range steps {
		robot, cell := luck.below(len(c.Robots)+2)-1, cells[luck.below(len(cells))]
		var e, want api.Errno
		if luck.below(2) == 0 {
			var bin, wantBin int
			bin, e = s.Lift(robot, cell)
			wantBin, want = m.lift(robot, cell)
			if bin != wantBin {
				t.Fatalf("Lift %d, %v: %d, want %d", robot, cell, bin, wantBin)
			}
		} else {
			e, want = s.Drop(robot, cell), m.drop(robot, cell)
		}
		if e != want {
			t.Fatalf("%d, %v: error %d, want %d", robot, cell, e, want)
		}
		told[e]++
		behind(s, m)
	}
	return told
}

// P8.1 to P8.4: whatever is lifted and dropped, all is told as the chapter says.
func TestWalk(t *testing.T) {
	var luck chance = 3
	told := map[api.Errno]int{}
	for _, c := range confs() {
		for e, n := range walk(t, c, 900, &luck, func(s *stacks.Stacks, m *model) { same(t, s, m) }) {
			told[e] += n
		}
	}
	for _, e := range []api.Errno{api.OK, api.ErrArg, api.ErrState, api.ErrNone, api.ErrFull} {
		if told[e] < 50 {
			t.Errorf("error %d came %d times: too few", e, told[e])
		}
	}
}

// P8.4: Bins tells the same for ever, of many bins and behind many steps.
func TestBinsForEver(t *testing.T) {
	var luck chance = 5
	for _, c := range []api.Conf{busy(), full()} {
		walk(t, c, 20000, &luck, func(s *stacks.Stacks, m *model) {
			if got := s.Bins(); !slices.Equal(got, m.bins) {
				t.Fatalf("Bins: %v, want %v", got, m.bins)
			}
		})
	}
}

// P8.4: what is lifted and dropped again at its place changes nothing, whichever robot does it, wherever.
func TestThereAndBack(t *testing.T) {
	var luck chance = 9
	for _, c := range confs() {
		walk(t, c, 60, &luck, func(s *stacks.Stacks, m *model) {
			for r := range c.Robots {
				for _, cell := range inGrid(c) {
					bin, e := s.Lift(r, cell)
					if e != api.OK {
						continue
					}
					if s.Load(r) != bin || s.Top(cell) == bin {
						t.Fatalf("%d at %v: load %d", bin, cell, s.Load(r))
					}
					drops(t, s, r, cell, api.OK)
				}
			}
			same(t, s, m)
		})
	}
}

// P8.3: Find, written out.
func TestFind(t *testing.T) {
	s, _ := loaded(t)
	for _, x := range []struct {
		what  string
		bin   int
		c     api.Cell
		above int
		ok    bool
	}{
		{"lowest", 1, at(0, 2), 2, true},
		{"in the midst", 1000000000, at(0, 2), 1, true},
		{"highest", 5, at(0, 2), 0, true},
		{"alone", 7, at(3, 0), 0, true},
		{"at a port", 3, at(5, 0), 0, true},
		{"on a robot", 8, at(0, 0), 0, false},
		{"nowhere", 2, at(0, 0), 0, false},
		{"one more than the greatest", 1000000001, at(0, 0), 0, false},
		{"0", 0, at(0, 0), 0, false},
		{"-1", -1, at(0, 0), 0, false},
		{"below", -8, at(0, 0), 0, false},
		{"the least", math.MinInt, at(0, 0), 0, false},
		{"the greatest", math.MaxInt, at(0, 0), 0, false},
	} {
		if c, above, ok := s.Find(x.bin); c != x.c || above != x.above || ok != x.ok {
			t.Errorf("%s: %v, %d, %v", x.what, c, above, ok)
		}
	}
	drops(t, s, 1, at(0, 0), api.ErrFull)
	drops(t, s, 1, at(4, 4), api.OK)
	if c, above, ok := s.Find(8); c != at(4, 4) || above != 0 || !ok {
		t.Error(c, above, ok)
	}
}

// P8.3: Bins of stacks with bins on robots and at ports, and of none, written out.
func TestBins(t *testing.T) {
	s, _ := loaded(t)
	if got := s.Bins(); !slices.Equal(got, []int{1, 3, 5, 7, 8, 1000000000}) {
		t.Error(got)
	}
	if got := made(t, bare(2, 2)).Bins(); len(got) != 0 {
		t.Error(got)
	}
}

// told is what All tells.
type told struct {
	c    api.Cell
	bins []int
}

// sameTold tells whether two are the same.
func sameTold(a, b told) bool {
	return a.c == b.c && slices.Equal(a.bins, b.bins)
}

// collect is all that All tells, up to so many.
func collect(s *stacks.Stacks, most int) []told {
	var out []told
	for c, l := range s.All() {
		if len(out) == most {
			break
		}
		out = append(out, told{c, l})
	}
	return out
}

// P8.3: All, written out: the open cells in order, ports too.
func TestAll(t *testing.T) {
	c := bare(3, 2)
	c.Blocked = []api.Cell{at(1, 0)}
	c.Ports = []api.Cell{at(2, 0)}
	c.Robots = []api.Pose{to(1, 1)}
	c.Stacks = []api.Stack{{At: at(0, 1), Bins: []int{5}}, {At: at(0, 0), Bins: []int{4, 2, 9}}}
	s := made(t, c)
	lifts(t, s, 0, at(0, 0), 9, api.OK)
	drops(t, s, 0, at(2, 0), api.OK)
	lifts(t, s, 0, at(0, 0), 2, api.OK)
	want := []told{{at(0, 0), []int{4}}, {at(2, 0), []int{9}}, {at(0, 1), []int{5}}, {at(1, 1), nil}, {at(2, 1), nil}}
	if got := collect(s, 99); !slices.EqualFunc(got, want, sameTold) {
		t.Errorf("%v, want %v", got, want)
	}
}

// P8.3, R6: All, broken off at each place, gone through again and within itself.
func TestAllBrokenOff(t *testing.T) {
	s, m := loaded(t)
	seq := s.All()
	all := collect(s, 99)
	for stop := range len(all) + 1 {
		var got []told
		for c, l := range seq {
			if len(got) == stop {
				break
			}
			got = append(got, told{c, l})
		}
		if !slices.EqualFunc(got, all[:stop], sameTold) {
			t.Fatalf("broken off at %d: %v", stop, got)
		}
		asked := 0
		seq(func(api.Cell, []int) bool {
			asked++
			return asked <= stop
		})
		if want := min(stop+1, len(all)); asked != want {
			t.Fatalf("broken off at %d: told %d, want %d", stop, asked, want)
		}
	}
	for range seq {
		var got []told
		for c, l := range seq {
			got = append(got, told{c, l})
		}
		if !slices.EqualFunc(got, all, sameTold) {
			t.Fatalf("within itself: %v", got)
		}
	}
	same(t, s, m)
}

// R1: stacks that are turned while All is gone through do it no harm.
func TestAllWhileTurned(t *testing.T) {
	s := made(t, busy())
	m := modelOf(busy())
	var open []api.Cell
	for c := range s.All() {
		open = append(open, c)
		for r := range 2 {
			if bin, e := s.Lift(r, c); e == api.OK {
				m.lift(r, c)
				if s.Load(r) != bin {
					t.Fatal(s.Load(r), bin)
				}
			}
		}
		for r := range 2 {
			if s.Drop(r, at(1, 3)) == api.OK {
				m.drop(r, at(1, 3))
			}
		}
	}
	want := slices.DeleteFunc(inGrid(busy()), func(c api.Cell) bool { return !plainOpen(busy(), c) })
	if !slices.Equal(open, want) {
		t.Errorf("%v, want %v", open, want)
	}
	same(t, s, m)
}
