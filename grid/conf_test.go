package grid_test

import (
	"math"
	"reflect"
	"slices"
	"testing"

	"skep/api"
	"skep/grid"
)

// may fails unless May and New answer of a config as wanted.
func may(t *testing.T, what string, c api.Conf, want bool) {
	t.Helper()
	if (plainMay(c) == "") != want {
		t.Fatalf("%s: the test's own words say %q", what, plainMay(c))
	}
	if got := grid.May(c); got != want {
		t.Errorf("%s: May: %v, want %v", what, got, want)
	}
	g, e := grid.New(c)
	switch {
	case want && (g == nil || e != api.OK):
		t.Errorf("%s: New: %v, error %d", what, g, e)
	case !want && (g != nil || e != api.ErrConf):
		t.Errorf("%s: New: %v, error %d, want nil and ErrConf", what, g, e)
	}
}

// turnedBy is a config that was turned.
func turnedBy(c api.Conf, turn func(c *api.Conf)) api.Conf {
	turn(&c)
	return c
}

// row is the first n cells of a row.
func row(n, y int) []api.Cell {
	var out []api.Cell
	for x := range n {
		out = append(out, at(x, y))
	}
	return out
}

// P7.1: each number at both its limits and beyond, by itself.
func TestMayNumbers(t *testing.T) {
	for _, f := range []struct {
		name     string
		of       func(c *api.Conf) *int
		greatest int
	}{
		{"W", func(c *api.Conf) *int { return &c.W }, 16},
		{"H", func(c *api.Conf) *int { return &c.H }, 16},
		{"Height", func(c *api.Conf) *int { return &c.Height }, 8},
		{"Unit", func(c *api.Conf) *int { return &c.Unit }, 1000},
		{"Accel", func(c *api.Conf) *int { return &c.Accel }, 1000},
		{"Speed", func(c *api.Conf) *int { return &c.Speed }, 1000},
		{"Turn", func(c *api.Conf) *int { return &c.Turn }, 1000},
		{"Hoist", func(c *api.Conf) *int { return &c.Hoist }, 1000},
		{"Resend", func(c *api.Conf) *int { return &c.Resend }, 1000},
		{"Queue", func(c *api.Conf) *int { return &c.Queue }, 16},
		{"Budget", func(c *api.Conf) *int { return &c.Budget }, 1048576},
	} {
		for _, v := range append(ends(), 0, 1, 2, f.greatest-1, f.greatest, f.greatest+1, -1) {
			c := bare(4, 3)
			*f.of(&c) = v
			may(t, f.name, c, v >= 1 && v <= f.greatest)
		}
	}
	c := bare(math.MinInt, 2)
	may(t, "a product of sides that wraps round to 0", c, false)
	may(t, "nothing", api.Conf{}, false)
	may(t, "Back", turnedBy(busy(), func(c *api.Conf) { c.Back = true }), true)
}

// P7.1: blocked cells and ports.
func TestMayBlockedAndPorts(t *testing.T) {
	cells := func(list ...api.Cell) []api.Cell { return list }
	for _, x := range []struct {
		what           string
		blocked, ports []api.Cell
		want           bool
	}{
		{"none", nil, nil, true},
		{"empty lists", cells(), cells(), true},
		{"all cells blocked", inGrid(bare(4, 3)), nil, true},
		{"all cells and one of them twice", append(inGrid(bare(4, 3)), at(0, 0)), nil, false},
		{"blocked twice", cells(at(1, 1), at(2, 1), at(1, 1)), nil, false},
		{"a port twice", nil, cells(at(1, 1), at(2, 1), at(1, 1)), false},
		{"in both", cells(at(1, 1)), cells(at(1, 1)), false},
		{"X and Y changed places are another cell", cells(at(1, 2)), cells(at(2, 1)), true},
		{"a port with both neighbours open", nil, cells(at(1, 1)), true},
		{"a port with the east blocked", cells(at(2, 1)), cells(at(1, 1)), true},
		{"a port with the south blocked", cells(at(1, 2)), cells(at(1, 1)), true},
		{"a port with both blocked", cells(at(2, 1), at(1, 2)), cells(at(1, 1)), false},
		{"a port with north and west blocked", cells(at(0, 1), at(1, 0)), cells(at(1, 1)), true},
		{"a port at the east edge", nil, cells(at(3, 1)), true},
		{"a port at the east edge, the south blocked", cells(at(3, 2)), cells(at(3, 1)), false},
		{"a port at the south edge", nil, cells(at(1, 2)), true},
		{"a port at the south edge, the east blocked", cells(at(2, 2)), cells(at(1, 2)), false},
		{"a port in the south-east corner", nil, cells(at(3, 2)), false},
		{"a port beside a port, which is open", cells(at(1, 2)), cells(at(2, 1), at(1, 1)), true},
		{"eight ports", nil, slices.Concat(row(4, 0), row(4, 1)), true},
		{"nine ports", nil, slices.Concat(row(4, 0), row(4, 1), row(1, 2)), false},
	} {
		c := bare(4, 3)
		c.Blocked, c.Ports = x.blocked, x.ports
		may(t, x.what, c, x.want)
	}
	for _, c := range around(bare(4, 3)) {
		inside := slices.Contains(inGrid(bare(4, 3)), c)
		may(t, "one blocked", turnedBy(bare(4, 3), func(f *api.Conf) { f.Blocked = cells(c) }), inside)
		may(t, "one port", turnedBy(bare(4, 3), func(f *api.Conf) { f.Ports = cells(c) }), inside && c != at(3, 2))
	}
}

// P7.1: robots, each pose in and about the grid by itself, and pairs.
func TestMayRobots(t *testing.T) {
	walls := bare(4, 3)
	walls.Blocked = []api.Cell{at(1, 1)}
	walls.Ports = []api.Cell{at(2, 2), at(0, 0)}
	park := func(list ...api.Pose) api.Conf {
		return turnedBy(walls, func(c *api.Conf) { c.Robots = list })
	}
	free := []api.Pose{to(1, 0), to(2, 0), down(2, 0), down(3, 0), down(0, 1), to(2, 1), down(3, 1), to(0, 2)}
	for _, p := range poses(around(walls)) {
		may(t, "one robot", park(p), slices.Contains(free, p))
	}
	for _, p := range free {
		for _, q := range free {
			common := slices.ContainsFunc(plainCells(p), func(c api.Cell) bool { return slices.Contains(plainCells(q), c) })
			may(t, "two robots", park(p, q), !common)
		}
	}
	may(t, "a pose whose neighbour is a port alone", park(down(0, 1)), true)

	many := bare(16, 2)
	for i := range 8 {
		many.Robots = append(many.Robots, to(2*i, 0))
	}
	may(t, "eight robots", many, true)
	many.Robots = append(many.Robots, to(0, 1))
	may(t, "nine robots", many, false)

	shut := bare(3, 2)
	shut.Ports = []api.Cell{at(0, 0)}
	shut.Robots = []api.Pose{to(1, 0), to(0, 1)}
	may(t, "a port between robots: their cells are open", shut, true)
}

// P7.1: stacks: where they may stand.
func TestMayStacks(t *testing.T) {
	stacks := func(list ...api.Stack) api.Conf {
		return turnedBy(busy(), func(c *api.Conf) { c.Stacks = list })
	}
	on := []api.Cell{
		at(2, 0), at(3, 0), at(4, 0),
		at(0, 1), at(3, 1), at(4, 1), at(5, 1),
		at(0, 2), at(1, 2), at(2, 2), at(3, 2), at(4, 2),
		at(0, 3), at(1, 3), at(2, 3),
		at(1, 4), at(4, 4),
	}
	for _, c := range around(busy()) {
		may(t, "one stack", stacks(api.Stack{At: c, Bins: []int{3}}), slices.Contains(on, c))
		may(t, "one stack without bins", stacks(api.Stack{At: c}), slices.Contains(on, c))
	}
	may(t, "twice", stacks(api.Stack{At: at(3, 0), Bins: []int{1}}, api.Stack{At: at(2, 0)}, api.Stack{At: at(3, 0), Bins: []int{2}}), false)
	may(t, "twice without bins", stacks(api.Stack{At: at(3, 0)}, api.Stack{At: at(3, 0)}), false)
	may(t, "X and Y changed places", stacks(api.Stack{At: at(0, 3)}, api.Stack{At: at(3, 0)}), true)
}

// P7.1: how many bins a stack may have, and which.
func TestMayBins(t *testing.T) {
	bins := func(lists ...[]int) api.Conf {
		c := bare(4, 3)
		for i, l := range lists {
			c.Stacks = append(c.Stacks, api.Stack{At: at(i, 0), Bins: l})
		}
		return c
	}
	for height := 1; height <= 8; height++ {
		c := bins([]int{8, 7, 6, 5, 4, 3, 2, 1}[:height])
		c.Height = height
		may(t, "Height bins", c, true)
		c.Stacks[0].Bins = append(c.Stacks[0].Bins, 9)
		may(t, "one more", c, false)
	}
	for _, b := range append(ends(), -1, 0, 1, 2, 999999999, 1000000000, 1000000001) {
		may(t, "one bin", bins([]int{b}), b >= 1 && b <= 1000000000)
		may(t, "one bin among others", bins([]int{70, 60}, []int{50, b, 40}), b >= 1 && b <= 1000000000)
	}
	may(t, "twice in a stack", bins([]int{4, 4}), false)
	may(t, "twice in a stack, one between", bins([]int{4, 9, 4}), false)
	may(t, "in two stacks", bins([]int{4, 5}, []int{6, 4}), false)
	may(t, "in two stacks far apart", bins([]int{4, 5}, nil, []int{9}, []int{5}), false)
	may(t, "falling bins", bins([]int{9, 8, 7}, []int{6, 5, 4}), true)
}

// P7.1: MaxBins in all, and one more.
func TestMayMaxBins(t *testing.T) {
	c := bare(16, 16)
	c.Height = 8
	for i := range 64 {
		s := api.Stack{At: inGrid(c)[i]}
		for j := range 8 {
			s.Bins = append(s.Bins, 1000000000-(8*i+j))
		}
		c.Stacks = append(c.Stacks, s)
	}
	may(t, "512 bins", c, true)
	c.Stacks = append(c.Stacks, api.Stack{At: at(0, 8)})
	may(t, "512 bins and a stack without", c, true)
	c.Stacks[64].Bins = []int{1}
	may(t, "513 bins", c, false)

	high := bare(16, 16)
	high.Height = 8
	for i, at := range inGrid(high)[:255] {
		high.Stacks = append(high.Stacks, api.Stack{At: at, Bins: []int{2*i + 1, 2*i + 2}})
	}
	may(t, "510 bins on all stack cells", high, true)
	high.Stacks[3].Bins = append(high.Stacks[3].Bins, 1001, 1002)
	may(t, "512 bins on all stack cells", high, true)
	high.Stacks[200].Bins = append(high.Stacks[200].Bins, 1003)
	may(t, "513 bins on all stack cells", high, false)
}

// P7.1: long lists are refused, and do no harm.
func TestMayLongLists(t *testing.T) {
	long := 1 << 20
	may(t, "blocked", turnedBy(bare(4, 3), func(c *api.Conf) { c.Blocked = make([]api.Cell, long) }), false)
	may(t, "ports", turnedBy(bare(4, 3), func(c *api.Conf) { c.Ports = make([]api.Cell, long) }), false)
	may(t, "robots", turnedBy(bare(4, 3), func(c *api.Conf) { c.Robots = make([]api.Pose, long) }), false)
	may(t, "stacks", turnedBy(bare(4, 3), func(c *api.Conf) { c.Stacks = make([]api.Stack, long) }), false)
	may(t, "bins", turnedBy(bare(4, 3), func(c *api.Conf) { c.Stacks = []api.Stack{{Bins: make([]int, long)}} }), false)
}

// anyConf is a config that often may be, and often is just beyond.
func anyConf(luck *chance) api.Conf {
	c := bare(1+luck.below(5), 1+luck.below(5))
	c.Height = 1 + luck.below(3)
	cell := func() api.Cell { return at(luck.below(c.W+1)-luck.below(2), luck.below(c.H+1)-luck.below(2)) }
	for range luck.below(4) {
		c.Blocked = append(c.Blocked, cell())
	}
	for range luck.below(3) {
		c.Ports = append(c.Ports, cell())
	}
	for range luck.below(3) {
		c.Robots = append(c.Robots, api.Pose{At: cell(), Down: luck.below(2) == 0})
	}
	for range luck.below(3) {
		s := api.Stack{At: cell()}
		for range luck.below(c.Height + 1) {
			s.Bins = append(s.Bins, luck.below(6))
		}
		c.Stacks = append(c.Stacks, s)
	}
	return c
}

// P7.1: configs of all sorts, held against the chapter's words.
func TestMayOfAnyConfig(t *testing.T) {
	var luck chance = 1
	told := map[string]int{}
	for range 30000 {
		c := anyConf(&luck)
		why := plainMay(c)
		told[why]++
		may(t, "any", c, why == "")
		if t.Failed() {
			t.Fatalf("%+v: %q", c, why)
		}
		if why == "" {
			tells(t, c, made(t, c))
		}
	}
	for _, why := range []string{"", "blocked, ports", "a port that no robot can serve", "robots", "stacks", "bins"} {
		if told[why] < 100 {
			t.Errorf("%q came %d times: too few", why, told[why])
		}
	}
}

// deep is a config with the same in lists of its own, each with spare room.
func deep(c api.Conf) api.Conf {
	c.Blocked = spare(c.Blocked)
	c.Ports = spare(c.Ports)
	c.Robots = spare(c.Robots)
	c.Stacks = spare(c.Stacks)
	for i, s := range c.Stacks[:cap(c.Stacks)] {
		c.Stacks[:cap(c.Stacks)][i].Bins = spare(s.Bins)
	}
	return c
}

// spare is the same list in new memory, with spare room.
func spare[T any](l []T) []T {
	return append(make([]T, 0, len(l)+3), l...)
}

// whole is a config with its lists' spare room laid open.
func whole(c api.Conf) api.Conf {
	c.Blocked = c.Blocked[:cap(c.Blocked)]
	c.Ports = c.Ports[:cap(c.Ports)]
	c.Robots = c.Robots[:cap(c.Robots)]
	c.Stacks = slices.Clone(c.Stacks[:cap(c.Stacks)])
	for i, s := range c.Stacks {
		c.Stacks[i].Bins = s.Bins[:cap(s.Bins)]
	}
	return c
}

// P7.1, R3: a config stays as it is, spare room included, whether it may be or not.
func TestConfStays(t *testing.T) {
	wrong := turnedBy(busy(), func(c *api.Conf) {
		c.Stacks = append(c.Stacks, api.Stack{At: at(2, 2), Bins: []int{9, 3, 7}})
	})
	for _, c := range []api.Conf{busy(), wrong, walled()} {
		given, kept := deep(c), whole(deep(c))
		grid.May(given)
		if g, _ := grid.New(given); g != nil {
			tells(t, c, g)
		}
		if !reflect.DeepEqual(whole(given), kept) {
			t.Errorf("%+v, want %+v", whole(given), kept)
		}
	}
}

// R3, R4: a config that is turned behind New turns no grid, and two grids of one config have nothing in common.
func TestConfIsNotKept(t *testing.T) {
	given := deep(busy())
	g, other := made(t, given), made(t, given)
	for i := range given.Blocked {
		given.Blocked[i] = at(0, i)
	}
	for i := range given.Ports {
		given.Ports[i] = at(3, i)
	}
	for i := range given.Robots {
		given.Robots[i] = to(2, 2+i)
	}
	for i := range given.Stacks {
		given.Stacks[i].At = at(5, i)
	}
	tells(t, busy(), g)
	tells(t, busy(), other)
}
