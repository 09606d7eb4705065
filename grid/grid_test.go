package grid_test

import (
	"iter"
	"math"
	"math/big"
	"slices"
	"testing"

	"skep/api"
	"skep/grid"
)

// tells fails unless a grid tells of each cell and pose what the chapter says of the config.
func tells(t *testing.T, c api.Conf, g *grid.Grid) {
	t.Helper()
	var stacks []api.Cell
	for _, cell := range around(c) {
		if got, want := g.Open(cell), plainOpen(c, cell); got != want {
			t.Fatalf("Open %v: %v of %+v", cell, got, c)
		}
		if got, want := g.Port(cell), slices.Index(c.Ports, cell); got != want {
			t.Fatalf("Port %v: %d, want %d, of %+v", cell, got, want, c)
		}
		if got, want := g.Number(cell), slices.Index(inGrid(c), cell); got != want {
			t.Fatalf("Number %v: %d, want %d, of %+v", cell, got, want, c)
		}
		stacked := plainStacked(c, cell)
		if got := g.Stacked(cell); got != stacked {
			t.Fatalf("Stacked %v: %v of %+v", cell, got, c)
		}
		if stacked {
			stacks = append(stacks, cell)
		}
	}
	slices.SortFunc(stacks, inOrder)
	if got := slices.Collect(g.Stacks()); !slices.Equal(got, stacks) {
		t.Fatalf("Stacks: %v, want %v, of %+v", got, stacks, c)
	}
	for _, p := range poses(around(c)) {
		if got, want := g.Cells(p), plainCells(p); !slices.Equal(got, want) {
			t.Fatalf("Cells %v: %v, want %v", p, got, want)
		}
		if got, want := g.Fits(p), plainFits(c, p); got != want {
			t.Fatalf("Fits %v: %v of %+v", p, got, c)
		}
	}
}

// P7.1: Open, Port, Stacked, Number, Cells, Fits of all cells and poses of some grids, and out of them; P7.2: Stacks.
func TestCells(t *testing.T) {
	for _, c := range grids() {
		tells(t, c, made(t, c))
	}
}

// P7.1: a grid whose answers are written out.
func TestCellsWrittenOut(t *testing.T) {
	g := made(t, busy())
	// . an open cell that is run over alone, # blocked, s a stack cell, h a home, 0 to 2 a port
	rows := []string{
		"hhsss0",
		"s2#sss",
		"sssssh",
		"sss.#h",
		"1s.#s.",
	}
	for y, r := range rows {
		for x, k := range r {
			cell := at(x, y)
			port := -1
			if k >= '0' && k <= '2' {
				port = int(k - '0')
			}
			if g.Open(cell) != (k != '#') || g.Stacked(cell) != (k == 's') || g.Port(cell) != port || g.Number(cell) != 6*y+x {
				t.Errorf("%v (%c): open %v, stacked %v, port %d, number %d", cell, k, g.Open(cell), g.Stacked(cell), g.Port(cell), g.Number(cell))
			}
		}
	}
}

// P7.1: Cells reckons modulo 2^64.
func TestCellsWrapRound(t *testing.T) {
	g := made(t, bare(2, 2))
	for _, x := range []struct {
		p    api.Pose
		want api.Cell
	}{
		{to(math.MaxInt, 3), at(math.MinInt, 3)},
		{down(3, math.MaxInt), at(3, math.MinInt)},
		{to(3, math.MaxInt), at(4, math.MaxInt)},
		{down(math.MaxInt, 3), at(math.MaxInt, 4)},
		{to(math.MinInt, math.MinInt), at(math.MinInt+1, math.MinInt)},
		{down(math.MinInt, math.MinInt), at(math.MinInt, math.MinInt+1)},
		{to(-1, 0), at(0, 0)},
		{down(0, -1), at(0, 0)},
	} {
		if got := g.Cells(x.p); !slices.Equal(got, []api.Cell{x.p.At, x.want}) {
			t.Errorf("%v: %v", x.p, got)
		}
		if g.Fits(x.p) {
			t.Errorf("%v fits", x.p)
		}
	}
}

// wrapped is a sum modulo 2^64, by numbers that have no end.
func wrapped(a, b int) int {
	s := new(big.Int).Add(big.NewInt(int64(a)), big.NewInt(int64(b)))
	m := new(big.Int).Lsh(big.NewInt(1), 64)
	return int(s.Mod(s, m).Uint64())
}

// P7.1: Shift, of any pose, in each direction and in none, by numbers at the limits and beyond.
func TestShift(t *testing.T) {
	g := made(t, busy())
	steps := [4]api.Cell{at(0, -1), at(1, 0), at(0, 1), at(-1, 0)}
	numbers := append(ends(), -17, -16, -1, 0, 1, 2, 3, 4, 5, 15, 16, 17, 18)
	for _, p := range poses(around(busy())) {
		for _, dir := range numbers {
			for _, n := range numbers {
				q, ok := g.Shift(p, dir, n)
				want := api.Pose{}
				may := n >= 0 && n <= 16 && dir >= 0 && dir <= 3
				if may {
					want = api.Pose{At: at(wrapped(p.At.X, n*steps[dir].X), wrapped(p.At.Y, n*steps[dir].Y)), Down: p.Down}
				}
				if q != want || ok != may {
					t.Fatalf("Shift %v, %d, %d: %v, %v, want %v, %v", p, dir, n, q, ok, want, may)
				}
			}
		}
	}
	for _, x := range []struct {
		dir, n int
		want   api.Pose
	}{
		{api.North, 0, down(1, 2)}, {api.North, 1, down(1, 1)}, {api.East, 1, down(2, 2)}, {api.South, 1, down(1, 3)}, {api.West, 1, down(0, 2)},
		{api.North, 16, down(1, -14)}, {api.East, 16, down(17, 2)}, {api.South, 16, down(1, 18)}, {api.West, 16, down(-15, 2)},
	} {
		if q, ok := g.Shift(down(1, 2), x.dir, x.n); q != x.want || !ok {
			t.Errorf("Shift %d, %d: %v, %v", x.dir, x.n, q, ok)
		}
	}
}

// P7.2: Away, at the limits named and beyond, and of plain cells.
func TestAway(t *testing.T) {
	const far = 1 << 40
	cells := []api.Cell{{}, at(3, 4), at(-3, 4), at(15, 15), at(far, 0), at(0, far), at(-far, -far), at(far, far), at(far-1, 1-far)}
	for _, a := range cells {
		for _, b := range cells {
			want := int(math.Abs(float64(a.X)-float64(b.X)) + math.Abs(float64(a.Y)-float64(b.Y)))
			if got := grid.Away(a, b); got != want {
				t.Errorf("Away %v, %v: %d, want %d", a, b, got, want)
			}
		}
	}
	for _, v := range append([]int{far + 1, -far - 1}, far+2, -far-2, math.MaxInt, math.MinInt, 1<<62, -1<<62) {
		for _, c := range []api.Cell{at(v, 0), at(0, v), at(v, v), at(v, far), at(-far, v)} {
			for _, o := range cells {
				if grid.Away(c, o) != 0 || grid.Away(o, c) != 0 {
					t.Errorf("Away %v, %v: %d, %d", c, o, grid.Away(c, o), grid.Away(o, c))
				}
			}
		}
	}
	if got := grid.Away(at(far, far), at(-far, -far)); got != 1<<42 {
		t.Error(got)
	}
	if grid.Away(at(1, 2), at(4, 8)) != 9 || grid.Away(at(4, 2), at(1, 8)) != 9 || grid.Away(at(2, 2), at(2, 2)) != 0 {
		t.Error("plain cells")
	}
}

// again fails unless an iterator tells the same however often it is gone through, broken off at each place, and within itself.
func again[T comparable](t *testing.T, told iter.Seq[T]) {
	t.Helper()
	all := slices.Collect(told)
	for stop := range len(all) + 1 {
		var got []T
		for x := range told {
			if len(got) == stop {
				break
			}
			got = append(got, x)
		}
		if !slices.Equal(got, all[:stop]) {
			t.Fatalf("broken off at %d: %v, want %v", stop, got, all[:stop])
		}
		asked := 0
		told(func(x T) bool {
			asked++
			return asked <= stop
		})
		if want := min(stop+1, len(all)); asked != want {
			t.Fatalf("broken off at %d: told %d, want %d", stop, asked, want)
		}
	}
	for range told {
		if got := slices.Collect(told); !slices.Equal(got, all) {
			t.Fatalf("within itself: %v, want %v", got, all)
		}
	}
	if got := slices.Collect(told); !slices.Equal(got, all) {
		t.Fatalf("again: %v, want %v", got, all)
	}
}

// P7.2, R6: Stacks, broken off at each place and gone through again.
func TestStacksBrokenOff(t *testing.T) {
	for _, c := range grids() {
		again(t, made(t, c).Stacks())
	}
}

// spoil turns each cell of a list that was told, and of its spare room.
func spoil(l []api.Cell) {
	l = l[:cap(l)]
	for i := range l {
		l[i] = at(-77, -77)
	}
}

// R3: what is told is new memory.
func TestToldIsNewMemory(t *testing.T) {
	c := busy()
	g := made(t, c)
	for _, p := range poses(inGrid(c)) {
		spoil(g.Cells(p))
		for m := range g.Moves(p) {
			kept := g.Swept(m)
			spoil(g.Swept(m))
			if !slices.Equal(kept, plainSwept(c, m)) || !slices.Equal(g.Swept(m), kept) {
				t.Fatalf("%+v: %v, %v", m, kept, g.Swept(m))
			}
		}
	}
	tells(t, c, g)
}
