package route_test

import (
	"math"
	"slices"
	"testing"

	"skep/api"
	"skep/kinem"
	"skep/resv"
	"skep/route"
)

// P12.1: a run takes kinem's time, of each length, and of such as there are not 0.
func TestLastsOfRuns(t *testing.T) {
	c := plainConf(2, 2)
	for _, by := range [][3]int{{1, 1, 1}, {10, 2, 4}, {7, 3, 1000}, {100, 1, 20}} {
		k, _ := kinem.New(by[0], by[1], by[2])
		for n := -2; n < 20; n++ {
			if got := route.Lasts(c, k, api.Move{Kind: api.Run, Dir: n, N: n}); got != k.Time(n) || (got > 0) != (n >= 1 && n <= 16) {
				t.Errorf("a run of %d: %d", n, got)
			}
		}
		for _, n := range ends() {
			if got := route.Lasts(c, k, api.Move{Kind: api.Run, N: n}); got != 0 {
				t.Errorf("a run of %d: %d", n, got)
			}
		}
	}
	k, _ := kinem.New(10, 2, 4)
	if got := route.Lasts(c, k, api.Move{Kind: api.Run, N: 1}); got != 4 {
		t.Error(got)
	}
}

// P12.1: a turn takes Turn, a lift and a drop take Hoist, whatever else the move says.
func TestLastsOfOthers(t *testing.T) {
	k, _ := kinem.New(10, 2, 4)
	for _, v := range append(ends(), 0, 1, 2, 7, 1000) {
		turn, hoist := plainConf(2, 2), plainConf(2, 2)
		turn.Turn, hoist.Hoist = v, v
		for _, n := range []int{0, 1, 5, -1} {
			if got := route.Lasts(turn, k, api.Move{Kind: api.Turn, N: n}); got != v {
				t.Errorf("a turn of %d: %d", v, got)
			}
			for _, kind := range []int{api.Lift, api.Drop} {
				if got := route.Lasts(hoist, k, api.Move{Kind: kind, N: n}); got != v {
					t.Errorf("kind %d of %d: %d", kind, v, got)
				}
				if got := route.Lasts(turn, k, api.Move{Kind: kind, N: n}); got != 4 {
					t.Errorf("kind %d hangs on Turn: %d", kind, got)
				}
			}
			if got := route.Lasts(hoist, k, api.Move{Kind: api.Turn, N: n}); got != 3 {
				t.Errorf("a turn hangs on Hoist: %d", got)
			}
		}
	}
}

// P12.1: a kind that there is not takes 0.
func TestLastsOfNoKind(t *testing.T) {
	c := plainConf(2, 2)
	k := kinOf(t, c)
	for _, kind := range append(ends(), -1, 0, 5, 6) {
		if got := route.Lasts(c, k, api.Move{Kind: kind, N: 1, End: 9}); got != 0 {
			t.Errorf("kind %d: %d", kind, got)
		}
	}
}

// freeCase is slots in a hive of 3 by 1 cells, some of them, and the stretches in which they are not another's than 0's.
type freeCase struct {
	holds []hold
	xs    []int
	want  []span
}

func freeCases() []freeCase {
	all := []span{{0, end}}
	return []freeCase{
		{nil, nil, all},
		{[]hold{{1, 0, 0, end}, {1, 1, 0, end}, {1, 2, 0, end}}, nil, all},
		{nil, []int{0}, all},
		{[]hold{{1, 0, 5, 9}}, []int{0}, []span{{0, 5}, {9, end}}},
		{[]hold{{0, 0, 5, 9}}, []int{0}, all},
		{[]hold{{1, 0, 0, end}}, []int{0}, nil},
		{[]hold{{1, 0, 0, 1}}, []int{0}, []span{{1, end}}},
		{[]hold{{1, 0, end - 1, end}}, []int{0}, []span{{0, end - 1}}},
		{[]hold{{1, 0, 5, 9}}, []int{1, 2}, all},
		{[]hold{{1, 0, 5, 9}, {2, 1, 9, 12}}, []int{0, 1}, []span{{0, 5}, {12, end}}},
		{[]hold{{1, 0, 5, 9}, {1, 1, 9, 12}, {1, 2, 12, 13}}, []int{2, 0, 1}, []span{{0, 5}, {13, end}}},
		{[]hold{{1, 0, 5, 9}, {2, 1, 10, 12}}, []int{0, 1}, []span{{0, 5}, {9, 10}, {12, end}}},
		{[]hold{{1, 0, 5, 9}, {2, 1, 7, 12}}, []int{0, 1}, []span{{0, 5}, {12, end}}},
		{[]hold{{1, 0, 5, 20}, {2, 1, 7, 12}}, []int{1, 0}, []span{{0, 5}, {20, end}}},
		{[]hold{{1, 0, 5, 9}, {1, 1, 5, 9}}, []int{0, 1}, []span{{0, 5}, {9, end}}},
		{[]hold{{1, 0, 0, 4}, {2, 1, 0, 7}}, []int{0, 1}, []span{{7, end}}},
		{[]hold{{1, 0, 50, end}, {2, 1, 40, end}}, []int{0, 1}, []span{{0, 40}}},
		{[]hold{{1, 0, 0, 50}, {2, 1, 50, end}}, []int{0, 1}, nil},
		{[]hold{{1, 0, 0, 50}, {2, 1, 51, end}}, []int{0, 1}, []span{{50, 51}}},
		{[]hold{{1, 0, 0, 50}, {0, 0, 50, 60}, {2, 1, 60, end}, {0, 1, 0, 60}}, []int{0, 1}, []span{{50, 60}}},
		{[]hold{{1, 0, 5, 9}, {0, 0, 2, 5}, {0, 0, 9, 11}, {0, 1, 0, end}}, []int{0, 1}, []span{{0, 5}, {9, end}}},
		{[]hold{{1, 0, 2, 3}, {1, 0, 5, 6}, {2, 0, 8, 9}, {3, 1, 3, 4}, {3, 1, 6, 7}, {0, 2, 7, 8}}, []int{0, 1, 2}, []span{{0, 2}, {4, 5}, {7, 8}, {9, end}}},
		{[]hold{{1, 0, 5, 9}}, []int{0, 0, 0}, []span{{0, 5}, {9, end}}},
		{nil, []int{3}, nil},
		{nil, []int{-1}, nil},
		{nil, []int{0, 1, 3}, nil},
		{nil, []int{3, 0}, nil},
		{[]hold{{0, 0, 0, end}}, []int{0, -1, 0}, nil},
	}
}

func cellsOf(xs []int) []api.Cell {
	var out []api.Cell
	for _, x := range xs {
		out = append(out, cell(x, 0))
	}
	return out
}

// P12.1: the stretches in which none of the cells is another's, broken off behind each of them.
func TestFree(t *testing.T) {
	g := gridOf(t, plainConf(3, 1))
	for _, c := range freeCases() {
		r, cells := tableOf(t, 3, c.holds...), cellsOf(c.xs)
		if got := told(g, r, 0, cells, 99); !slices.Equal(got, c.want) {
			t.Errorf("Free of %v with %v: %v, want %v", c.xs, c.holds, got, c.want)
		}
		for most := 1; most <= len(c.want); most++ {
			if got := told(g, r, 0, cells, most); !slices.Equal(got, c.want[:most]) {
				t.Errorf("Free of %v with %v, %d of them: %v, want %v", c.xs, c.holds, most, got, c.want[:most])
			}
		}
	}
}

// R6: one iterator is gone through again and again, broken off or not, and each time begins anew.
func TestFreeAgain(t *testing.T) {
	g := gridOf(t, plainConf(3, 1))
	for _, c := range freeCases() {
		seq := route.Free(g, tableOf(t, 3, c.holds...), 0, cellsOf(c.xs))
		for most := range 2 * (len(c.want) + 1) {
			var got []span
			for from, to := range seq {
				got = append(got, span{from, to})
				if len(got) > most {
					break
				}
			}
			if n := min(most+1, len(c.want)); !slices.Equal(got, c.want[:n]) {
				t.Errorf("Free of %v with %v: %v, want %v", c.xs, c.holds, got, c.want[:n])
			}
		}
	}
}

// P12.1: to a robot that has nothing, or that there cannot be, all slots are others'.
func TestFreeForOthers(t *testing.T) {
	g := gridOf(t, plainConf(3, 1))
	r := tableOf(t, 3, hold{0, 0, 2, 4}, hold{1, 1, 3, 6}, hold{0, 1, 8, 9})
	for robot, want := range map[int][]span{
		0:  {{0, 3}, {6, end}},
		1:  {{0, 2}, {4, 8}, {9, end}},
		2:  {{0, 2}, {6, 8}, {9, end}},
		-1: {{0, 2}, {6, 8}, {9, end}},
	} {
		if got := told(g, r, robot, cellsOf([]int{0, 1}), 99); !slices.Equal(got, want) {
			t.Errorf("Free for %d: %v, want %v", robot, got, want)
		}
	}
	for _, robot := range ends() {
		if got := told(g, r, robot, cellsOf([]int{1, 0}), 99); len(got) != 3 {
			t.Errorf("Free for %d: %v", robot, got)
		}
	}
}

// P12.1: a cell that is not in the grid is never free, wherever else it is; a blocked one is in the grid.
func TestFreeOfNoCell(t *testing.T) {
	g := gridOf(t, plainConf(3, 2, cell(1, 1)))
	r := tableOf(t, 6, hold{1, 4, 5, 9})
	numbers := append(ends(), -2, -1, 3, 4)
	for _, n := range numbers {
		for _, c := range []api.Cell{cell(n, 0), cell(0, n), cell(n, n), cell(n, math.MaxInt)} {
			for _, l := range [][]api.Cell{{c}, {cell(0, 0), c}, {c, cell(2, 1)}} {
				if g.Number(c) < 0 && len(told(g, r, 0, l, 99)) != 0 {
					t.Errorf("Free of %v", l)
				}
			}
		}
	}
	if got := told(g, r, 0, []api.Cell{cell(1, 1), cell(0, 0)}, 99); !slices.Equal(got, []span{{0, 5}, {9, end}}) {
		t.Error(got)
	}
}

// P12.1: cells are told apart by both numbers, in a grid that is not as wide as high.
func TestFreeByNumber(t *testing.T) {
	c := plainConf(3, 5)
	g := gridOf(t, c)
	for number := range 15 {
		r := tableOf(t, 15, hold{1, number, 5, 9})
		for y := range 5 {
			for x := range 3 {
				if got := told(g, r, 0, []api.Cell{cell(x, y)}, 99); (len(got) == 2) != (y*3+x == number) {
					t.Errorf("cell %d, %d with a slot on %d: %v", x, y, number, got)
				}
			}
		}
	}
}

// P12.1: any cells of any table, held against the chapter's words from edge to edge.
func TestFreeOfAny(t *testing.T) {
	var luck chance = 5
	several := 0
	for range 3000 {
		c := drawConf(&luck, 4)
		g := gridOf(t, c)
		r, _ := resv.New(c.W * c.H)
		fill(&luck, r, luck.below(30), luck.below(2)*(end-40), 1+luck.below(30))
		var cells []api.Cell
		for range luck.below(6) {
			cells = append(cells, cell(luck.below(c.W), luck.below(c.H)))
		}
		if luck.below(20) == 0 {
			cells = append(cells, cell(c.W, 0))
		}
		want := plainFree(g, r, 1, cells)
		if len(want) > 2 {
			several++
		}
		if got := told(g, r, 1, cells, 999); !slices.Equal(got, want) {
			t.Fatalf("Free of %v: %v, want %v", cells, got, want)
		}
	}
	if several < 300 {
		t.Errorf("only %d had several stretches", several)
	}
}

// R3: the cells stay as they are, spare room included, and what becomes of them behind the call turns nothing.
func TestCellsStay(t *testing.T) {
	g := gridOf(t, plainConf(3, 1))
	r := tableOf(t, 3, hold{1, 0, 5, 9}, hold{1, 1, 20, 30})
	cells := append(make([]api.Cell, 0, 8), cell(2, 0), cell(0, 0), cell(2, 0))
	kept := slices.Clone(cells[:cap(cells)])
	seq := route.Free(g, r, 0, cells)
	for range seq {
	}
	if !slices.Equal(cells[:cap(cells)], kept) {
		t.Error(cells[:cap(cells)])
	}
	for i := range cells {
		cells[i] = cell(1, 0)
	}
	var got []span
	for from, to := range seq {
		got = append(got, span{from, to})
	}
	if !slices.Equal(got, []span{{0, 5}, {9, end}}) {
		t.Error(got)
	}
}

// R6: while nothing is turned, an iterator tells what was there when it was asked for; others that are gone through beside it do not matter.
func TestFreeBesideAnother(t *testing.T) {
	g := gridOf(t, plainConf(3, 1))
	r := tableOf(t, 3, hold{1, 0, 5, 9}, hold{1, 1, 20, 30})
	a, b := route.Free(g, r, 0, cellsOf([]int{0})), route.Free(g, r, 0, cellsOf([]int{1}))
	var got []span
	for from, to := range a {
		got = append(got, span{from, to})
		for from, to := range b {
			got = append(got, span{from, to})
		}
		for range a {
			break
		}
	}
	if !slices.Equal(got, []span{{0, 5}, {0, 20}, {30, end}, {9, end}, {0, 20}, {30, end}}) {
		t.Error(got)
	}
}
