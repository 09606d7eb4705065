package grid_test

import (
	"math"
	"slices"
	"testing"

	"skep/api"
	"skep/grid"
)

// legal fails unless Legal and Swept answer of a move what the chapter says of the config.
func legal(t *testing.T, c api.Conf, g *grid.Grid, m api.Move) bool {
	t.Helper()
	want := plainSwept(c, m)
	if got := g.Legal(m); got != (len(want) > 0) {
		t.Fatalf("Legal %+v: %v, of %+v", m, got, c)
	}
	if got := g.Swept(m); !slices.Equal(got, want) {
		t.Fatalf("Swept %+v: %v, want %v, of %+v", m, got, want, c)
	}
	return len(want) > 0
}

// P7.2: of each pose in and about a grid each kind, direction and number, with To where it leads and elsewhere.
func TestLegalOfAll(t *testing.T) {
	for _, c := range []api.Conf{bare(1, 1), bare(2, 1), bare(2, 2), bare(3, 3), busy(), walled()} {
		g := made(t, c)
		count := map[int]int{}
		for _, from := range poses(around(c)) {
			for kind := -1; kind <= 6; kind++ {
				for dir := -1; dir <= 4; dir++ {
					for n := -1; n <= 7; n++ {
						far := from
						for range max(n, 0) {
							far = plainStep(far, dir)
						}
						turned := api.Pose{At: from.At, Down: !from.Down}
						for _, to := range []api.Pose{far, from, turned, {At: far.At, Down: !far.Down}, plainStep(far, dir), plainStep(from, dir), {}} {
							if legal(t, c, g, api.Move{Kind: kind, Dir: dir, N: n, From: from, To: to}) {
								count[kind]++
							}
						}
					}
				}
			}
		}
		if c.W == 6 && (count[api.Run] == 0 || count[api.Turn] == 0 || count[api.Lift] == 0 || count[api.Drop] == 0) {
			t.Error("some kind was never legal", count)
		}
	}
}

// P7.2: From and To any two poses of a grid: only the one that the move leads to counts.
func TestLegalOfAnyTwoPoses(t *testing.T) {
	c := walled()
	g := made(t, c)
	for _, from := range poses(inGrid(c)) {
		for _, to := range poses(inGrid(c)) {
			for kind := range 6 {
				for dir := range 4 {
					for _, n := range []int{0, 1, 2, 4} {
						legal(t, c, g, api.Move{Kind: kind, Dir: dir, N: n, From: from, To: to})
					}
				}
			}
		}
	}
}

// P7.2: runs, written out: their way free, blocked in its midst, too short, too long, elsewhere.
func TestLegalRuns(t *testing.T) {
	c := bare(8, 6)
	c.Blocked = []api.Cell{at(4, 2)}
	g := made(t, c)
	for _, x := range []struct {
		what     string
		dir, n   int
		from, to api.Pose
		want     []api.Cell
	}{
		{"east, lengthwise", api.East, 2, to(0, 1), to(2, 1), []api.Cell{at(0, 1), at(1, 1), at(2, 1), at(3, 1)}},
		{"west, lengthwise", api.West, 2, to(2, 1), to(0, 1), []api.Cell{at(0, 1), at(1, 1), at(2, 1), at(3, 1)}},
		{"south, lengthwise", api.South, 1, down(0, 1), down(0, 2), []api.Cell{at(0, 1), at(0, 2), at(0, 3)}},
		{"north, lengthwise", api.North, 1, down(0, 2), down(0, 1), []api.Cell{at(0, 1), at(0, 2), at(0, 3)}},
		{"south, broadside", api.South, 2, to(0, 1), to(0, 3), []api.Cell{at(0, 1), at(1, 1), at(0, 2), at(1, 2), at(0, 3), at(1, 3)}},
		{"north, broadside", api.North, 1, to(5, 4), to(5, 3), []api.Cell{at(5, 3), at(6, 3), at(5, 4), at(6, 4)}},
		{"east, broadside", api.East, 1, down(0, 0), down(1, 0), []api.Cell{at(0, 0), at(1, 0), at(0, 1), at(1, 1)}},
		{"west, broadside", api.West, 1, down(7, 4), down(6, 4), []api.Cell{at(6, 4), at(7, 4), at(6, 5), at(7, 5)}},
		{"to the edge", api.East, 6, to(0, 0), to(6, 0), row(8, 0)},
		{"over the edge", api.East, 7, to(0, 0), to(7, 0), nil},
		{"blocked in its midst, lengthwise", api.East, 6, to(0, 2), to(6, 2), nil},
		{"blocked in its midst, broadside", api.East, 6, down(0, 1), down(6, 1), nil},
		{"blocked at its end", api.East, 3, to(0, 2), to(3, 2), nil},
		{"just ahead of it", api.East, 2, to(0, 2), to(2, 2), row(4, 2)},
		{"beside it", api.East, 6, down(0, 3), down(6, 3), append(row(7, 3), row(7, 4)...)},
		{"from a blocked cell", api.East, 1, to(4, 2), to(5, 2), nil},
		{"by 0 cells", api.East, 0, to(0, 0), to(0, 0), nil},
		{"by -1 cells", api.East, -1, to(1, 0), to(0, 0), nil},
		{"N is another", api.East, 1, to(0, 0), to(2, 0), nil},
		{"Dir is another", api.South, 2, to(0, 0), to(2, 0), nil},
		{"Down is another", api.East, 2, to(0, 0), down(2, 0), nil},
		{"no direction", 4, 1, to(1, 1), to(1, 1), nil},
		{"no direction, below", -1, 1, to(1, 1), to(1, 1), nil},
		{"far away", api.East, 1, to(math.MaxInt, 0), to(math.MinInt, 0), nil},
		{"into the grid from without", api.East, 1, to(-1, 0), to(0, 0), nil},
		{"N of 2^63 - 1", api.East, math.MaxInt, to(0, 0), to(math.MaxInt, 0), nil},
		{"N of -2^63", api.East, math.MinInt, to(0, 0), to(math.MinInt, 0), nil},
		{"N of -2^63, back to where it was", api.North, math.MinInt, to(0, 0), to(0, math.MinInt), nil},
	} {
		m := api.Move{Kind: api.Run, Dir: x.dir, N: x.n, From: x.from, To: x.to}
		if g.Legal(m) != (len(x.want) > 0) || !slices.Equal(g.Swept(m), x.want) {
			t.Errorf("%s: %v, %v, want %v", x.what, g.Legal(m), g.Swept(m), x.want)
		}
	}
}

// P7.2: the longest runs that there are, and runs longer than any grid.
func TestLongRuns(t *testing.T) {
	c := bare(16, 16)
	g := made(t, c)
	for _, from := range []api.Pose{to(0, 0), down(0, 0), to(14, 15), down(15, 14)} {
		for dir := range 4 {
			for n := range 40 {
				far := from
				for range n {
					far = plainStep(far, dir)
				}
				legal(t, c, g, api.Move{Kind: api.Run, Dir: dir, N: n, From: from, To: far})
			}
		}
	}
	if !g.Legal(api.Move{Kind: api.Run, Dir: api.South, N: 15, From: to(3, 0), To: to(3, 15)}) {
		t.Error("from edge to edge")
	}
}

// P7.2: a Turn with each of its four cells blocked, at the edges, and with numbers that are not its.
func TestLegalTurns(t *testing.T) {
	four := []api.Cell{at(1, 1), at(2, 1), at(1, 2), at(2, 2)}
	turns := []api.Move{{Kind: api.Turn, From: to(1, 1), To: down(1, 1)}, {Kind: api.Turn, From: down(1, 1), To: to(1, 1)}}
	for _, m := range turns {
		g := made(t, bare(4, 4))
		if !g.Legal(m) || !slices.Equal(g.Swept(m), four) {
			t.Errorf("%+v: %v", m, g.Swept(m))
		}
		for _, b := range inGrid(bare(4, 4)) {
			c := turnedBy(bare(4, 4), func(c *api.Conf) { c.Blocked = []api.Cell{b} })
			if legal(t, c, made(t, c), m) == slices.Contains(four, b) {
				t.Errorf("%v blocked: %+v", b, m)
			}
		}
		for _, wrong := range []func(m *api.Move){
			func(m *api.Move) { m.Dir = 1 }, func(m *api.Move) { m.Dir = -1 }, func(m *api.Move) { m.N = 1 }, func(m *api.Move) { m.N = -1 },
			func(m *api.Move) { m.To = m.From }, func(m *api.Move) { m.To.At.X++ }, func(m *api.Move) { m.To.At.Y-- },
		} {
			bad := m
			wrong(&bad)
			if g.Legal(bad) || len(g.Swept(bad)) != 0 {
				t.Errorf("%+v: %v", bad, g.Swept(bad))
			}
		}
	}
	g := made(t, bare(4, 4))
	for _, p := range []api.Pose{to(0, 3), down(3, 0), to(2, 3), down(3, 2)} {
		if m := (api.Move{Kind: api.Turn, From: p, To: api.Pose{At: p.At, Down: !p.Down}}); g.Legal(m) || len(g.Swept(m)) != 0 {
			t.Errorf("%+v at the edge: %v", m, g.Swept(m))
		}
	}
}

// P7.2: a Lift and a Drop, wherever the pose fits, over whatever is there; and with numbers that are not theirs.
func TestLegalLiftsAndDrops(t *testing.T) {
	c := busy()
	g := made(t, c)
	for _, kind := range []int{api.Lift, api.Drop} {
		for _, p := range poses(around(c)) {
			m := api.Move{Kind: kind, From: p, To: p}
			if legal(t, c, g, m) != plainFits(c, p) {
				t.Errorf("%+v", m)
			}
			for _, wrong := range []func(m *api.Move){
				func(m *api.Move) { m.Dir = 1 }, func(m *api.Move) { m.Dir = -1 }, func(m *api.Move) { m.N = 1 }, func(m *api.Move) { m.N = -1 },
				func(m *api.Move) { m.To.Down = !m.To.Down }, func(m *api.Move) { m.To.At.X++ }, func(m *api.Move) { m.To.At.Y++ },
			} {
				bad := m
				wrong(&bad)
				if g.Legal(bad) || len(g.Swept(bad)) != 0 {
					t.Errorf("%+v: %v", bad, g.Swept(bad))
				}
			}
		}
	}
	if got := g.Swept(api.Move{Kind: api.Lift, From: down(0, 2), To: down(0, 2)}); !slices.Equal(got, []api.Cell{at(0, 2), at(0, 3)}) {
		t.Error(got)
	}
}

// P7.2: kinds that there are not.
func TestLegalOfNoKind(t *testing.T) {
	g := made(t, bare(4, 4))
	for _, kind := range append(ends(), -1, 0, 5, 6) {
		for _, m := range []api.Move{
			{From: to(1, 1), To: to(1, 1)}, {From: to(1, 1), To: down(1, 1)}, {From: to(1, 1)}, {},
			{Dir: api.East, N: 1, From: to(1, 1), To: to(2, 1)},
		} {
			m.Kind = kind
			if g.Legal(m) || len(g.Swept(m)) != 0 {
				t.Errorf("%+v: %v", m, g.Swept(m))
			}
		}
	}
}

// P7.2: At and End are not looked at.
func TestTimesAreNotLookedAt(t *testing.T) {
	c := busy()
	g := made(t, c)
	for _, p := range poses(inGrid(c)) {
		for _, m := range slices.Concat(plainMoves(c, p), []api.Move{{Kind: api.Lift, From: p, To: p}, {Kind: api.Run, Dir: 1, From: p, To: p}}) {
			want := plainSwept(c, m)
			for _, v := range append(ends(), -1, 1) {
				for _, times := range [][2]int{{v, 0}, {0, v}, {v, v}, {v, -v}} {
					m.At, m.End = times[0], times[1]
					if g.Legal(m) != (len(want) > 0) || !slices.Equal(g.Swept(m), want) {
						t.Fatalf("%+v: %v, want %v", m, g.Swept(m), want)
					}
				}
			}
		}
	}
}

// P7.2: Moves of each pose in and about some grids, in their order, broken off at each place and gone through again.
func TestMoves(t *testing.T) {
	for _, c := range grids() {
		g := made(t, c)
		for _, p := range poses(around(c)) {
			told := g.Moves(p)
			if got, want := slices.Collect(told), plainMoves(c, p); !slices.Equal(got, want) {
				t.Fatalf("%v: %+v, want %+v, of %+v", p, got, want, c)
			}
			if !plainFits(c, p) && len(slices.Collect(told)) != 0 {
				t.Fatalf("%v does not fit, of %+v", p, c)
			}
			again(t, told)
		}
	}
}

// P7.2: Moves, written out.
func TestMovesWrittenOut(t *testing.T) {
	run := func(dir, n int, from, to api.Pose) api.Move {
		return api.Move{Kind: api.Run, Dir: dir, N: n, From: from, To: to}
	}
	turn := func(from, to api.Pose) api.Move { return api.Move{Kind: api.Turn, From: from, To: to} }
	hole := bare(5, 4)
	hole.Blocked = []api.Cell{at(2, 3)}
	for _, x := range []struct {
		c    api.Conf
		p    api.Pose
		want []api.Move
	}{
		{bare(2, 2), to(0, 0), []api.Move{run(api.South, 1, to(0, 0), to(0, 1)), turn(to(0, 0), down(0, 0))}},
		{bare(2, 2), down(1, 0), []api.Move{run(api.West, 1, down(1, 0), down(0, 0))}},
		{bare(2, 1), to(0, 0), nil},
		{bare(1, 4), down(0, 1), []api.Move{run(api.North, 1, down(0, 1), down(0, 0)), run(api.South, 1, down(0, 1), down(0, 2))}},
		{hole, to(1, 1), []api.Move{
			run(api.North, 1, to(1, 1), to(1, 0)),
			run(api.East, 1, to(1, 1), to(2, 1)), run(api.East, 2, to(1, 1), to(3, 1)),
			run(api.South, 1, to(1, 1), to(1, 2)),
			run(api.West, 1, to(1, 1), to(0, 1)),
			turn(to(1, 1), down(1, 1)),
		}},
	} {
		if got := slices.Collect(made(t, x.c).Moves(x.p)); !slices.Equal(got, x.want) {
			t.Errorf("%v: %+v, want %+v", x.p, got, x.want)
		}
	}
}

// P7.2: ports, homes and stacks are in no move's way.
func TestMovesOverWhatIsThere(t *testing.T) {
	c := busy()
	empty := bare(c.W, c.H)
	empty.Blocked = c.Blocked
	g, other := made(t, c), made(t, empty)
	for _, p := range poses(inGrid(c)) {
		if got, want := slices.Collect(g.Moves(p)), slices.Collect(other.Moves(p)); !slices.Equal(got, want) {
			t.Errorf("%v: %+v, want %+v", p, got, want)
		}
	}
}

// back is the move by which a move is undone.
func back(m api.Move) api.Move {
	m.From, m.To = m.To, m.From
	if m.Kind == api.Run {
		m.Dir = (m.Dir + 2) % 4
	}
	return m
}

// joined tells whether each of the cells can be come to from the first, cell by cell.
func joined(cells []api.Cell) bool {
	come := cells[:1:1]
	for i := 0; i < len(come); i++ {
		for dir := range 4 {
			c := plainStep(api.Pose{At: come[i]}, dir).At
			if slices.Contains(cells, c) && !slices.Contains(come, c) {
				come = append(come, c)
			}
		}
	}
	return len(come) == len(cells)
}

// P7.3: moves are legal, their ends fit, what they sweep is joined, in order and open, and a move back sweeps the same.
func TestMovesAreLegalBothWays(t *testing.T) {
	for _, c := range grids() {
		g := made(t, c)
		for _, p := range poses(inGrid(c)) {
			for m := range g.Moves(p) {
				swept := g.Swept(m)
				if !g.Legal(m) || !g.Fits(m.From) || !g.Fits(m.To) || m.From != p {
					t.Fatalf("%+v of %+v", m, c)
				}
				if !slices.IsSortedFunc(swept, inOrder) || !joined(swept) || !g.Legal(back(m)) || !slices.Equal(g.Swept(back(m)), swept) {
					t.Fatalf("%+v: %v, back %v", m, swept, g.Swept(back(m)))
				}
				if !slices.Contains(slices.Collect(g.Moves(m.To)), back(m)) {
					t.Fatalf("%+v: the move back is not told", m)
				}
			}
		}
	}
}

// P7.3: each legal run and turn is among the moves, just once.
func TestLegalMovesAreTold(t *testing.T) {
	for _, c := range grids() {
		g := made(t, c)
		for _, p := range poses(inGrid(c)) {
			told := map[api.Move]int{}
			for m := range g.Moves(p) {
				told[m]++
			}
			legal := 0
			for dir := range 4 {
				for n := range 18 {
					far, ok := g.Shift(p, dir, n)
					m := api.Move{Kind: api.Run, Dir: dir, N: n, From: p, To: far}
					if ok && g.Legal(m) {
						legal++
						if told[m] != 1 {
							t.Fatalf("%+v told %d times", m, told[m])
						}
					}
				}
			}
			m := api.Move{Kind: api.Turn, From: p, To: api.Pose{At: p.At, Down: !p.Down}}
			if g.Legal(m) {
				legal++
				if told[m] != 1 {
					t.Fatalf("%+v told %d times", m, told[m])
				}
			}
			if legal != len(told) {
				t.Fatalf("%v: %d told, %d legal", p, len(told), legal)
			}
		}
	}
}
