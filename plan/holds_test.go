package plan_test

import (
	"slices"
	"testing"

	"skep/api"
	"skep/grid"
	"skep/plan"
	"skep/resv"
)

// holds fails unless Holds tells just these wants.
func holds(t *testing.T, g *grid.Grid, from api.Pose, moves []api.Move, want ...resv.Want) {
	t.Helper()
	if got := plan.Holds(g, from, moves); !slices.Equal(got, want) {
		t.Errorf("Holds of %v from %v:\n%v; want\n%v", moves, from, got, want)
	}
}

// P13.2: of no moves the pose's cells, by their numbers, for all time.
func TestHoldsOfNoMoves(t *testing.T) {
	g := gridOf(t, plainConf(5, 3))
	holds(t, g, flat(2, 1), nil, resv.Want{Cell: 7, From: 0, To: end}, resv.Want{Cell: 8, From: 0, To: end})
	holds(t, g, down(2, 1), []api.Move{}, resv.Want{Cell: 7, From: 0, To: end}, resv.Want{Cell: 12, From: 0, To: end})
	holds(t, g, flat(0, 0), nil, resv.Want{Cell: 0, From: 0, To: end}, resv.Want{Cell: 1, From: 0, To: end})
}

// P13.2: of one move, with a wait ahead of it and at tick 0.
func TestHoldsOfOneMove(t *testing.T) {
	g := gridOf(t, plainConf(5, 3))
	// A run to the west: the swept cells come in their order, not in the run's.
	holds(t, g, flat(2, 1), []api.Move{run(flat(2, 1), api.West, 2, 9)},
		resv.Want{Cell: 7, From: 0, To: 9}, resv.Want{Cell: 8, From: 0, To: 9},
		resv.Want{Cell: 5, From: 9, To: 11}, resv.Want{Cell: 6, From: 9, To: 11}, resv.Want{Cell: 7, From: 9, To: 11}, resv.Want{Cell: 8, From: 9, To: 11},
		resv.Want{Cell: 5, From: 11, To: end}, resv.Want{Cell: 6, From: 11, To: end})
	holds(t, g, down(0, 1), []api.Move{run(down(0, 1), api.North, 1, 0)},
		resv.Want{Cell: 0, From: 0, To: 1}, resv.Want{Cell: 5, From: 0, To: 1}, resv.Want{Cell: 10, From: 0, To: 1},
		resv.Want{Cell: 0, From: 1, To: end}, resv.Want{Cell: 5, From: 1, To: end})
	holds(t, g, down(1, 0), []api.Move{run(down(1, 0), api.East, 1, 1)},
		resv.Want{Cell: 1, From: 0, To: 1}, resv.Want{Cell: 6, From: 0, To: 1},
		resv.Want{Cell: 1, From: 1, To: 2}, resv.Want{Cell: 2, From: 1, To: 2}, resv.Want{Cell: 6, From: 1, To: 2}, resv.Want{Cell: 7, From: 1, To: 2},
		resv.Want{Cell: 2, From: 2, To: end}, resv.Want{Cell: 7, From: 2, To: end})
	// A turn has all four, and then the other pose's.
	holds(t, g, flat(3, 0), []api.Move{turn(flat(3, 0), 2)},
		resv.Want{Cell: 3, From: 0, To: 2}, resv.Want{Cell: 4, From: 0, To: 2},
		resv.Want{Cell: 3, From: 2, To: 5}, resv.Want{Cell: 4, From: 2, To: 5}, resv.Want{Cell: 8, From: 2, To: 5}, resv.Want{Cell: 9, From: 2, To: 5},
		resv.Want{Cell: 3, From: 5, To: end}, resv.Want{Cell: 8, From: 5, To: end})
	// A lift has the pose's, told three times.
	holds(t, g, flat(0, 0), []api.Move{lift(flat(0, 0), 7)},
		resv.Want{Cell: 0, From: 0, To: 7}, resv.Want{Cell: 1, From: 0, To: 7},
		resv.Want{Cell: 0, From: 7, To: 11}, resv.Want{Cell: 1, From: 7, To: 11},
		resv.Want{Cell: 0, From: 11, To: end}, resv.Want{Cell: 1, From: 11, To: end})
	holds(t, g, down(0, 0), []api.Move{drop(down(0, 0), 0)},
		resv.Want{Cell: 0, From: 0, To: 4}, resv.Want{Cell: 5, From: 0, To: 4},
		resv.Want{Cell: 0, From: 4, To: end}, resv.Want{Cell: 5, From: 4, To: end})
}

// P13.2: of several moves, in the order of time: with a wait between two, and without.
func TestHoldsOfSeveralMoves(t *testing.T) {
	g := gridOf(t, plainConf(3, 1))
	out, home := run(flat(0, 0), api.East, 1, 0), func(at int) api.Move { return run(flat(1, 0), api.West, 1, at) }
	holds(t, g, flat(0, 0), []api.Move{out, lift(flat(1, 0), 1), home(5)},
		resv.Want{Cell: 0, From: 0, To: 1}, resv.Want{Cell: 1, From: 0, To: 1}, resv.Want{Cell: 2, From: 0, To: 1},
		resv.Want{Cell: 1, From: 1, To: 5}, resv.Want{Cell: 2, From: 1, To: 5},
		resv.Want{Cell: 0, From: 5, To: 6}, resv.Want{Cell: 1, From: 5, To: 6}, resv.Want{Cell: 2, From: 5, To: 6},
		resv.Want{Cell: 0, From: 6, To: end}, resv.Want{Cell: 1, From: 6, To: end})
	// A wait of a tick ahead of the lift, of two behind it.
	holds(t, g, flat(0, 0), []api.Move{out, lift(flat(1, 0), 2), home(8)},
		resv.Want{Cell: 0, From: 0, To: 1}, resv.Want{Cell: 1, From: 0, To: 1}, resv.Want{Cell: 2, From: 0, To: 1},
		resv.Want{Cell: 1, From: 1, To: 2}, resv.Want{Cell: 2, From: 1, To: 2},
		resv.Want{Cell: 1, From: 2, To: 6}, resv.Want{Cell: 2, From: 2, To: 6},
		resv.Want{Cell: 1, From: 6, To: 8}, resv.Want{Cell: 2, From: 6, To: 8},
		resv.Want{Cell: 0, From: 8, To: 9}, resv.Want{Cell: 1, From: 8, To: 9}, resv.Want{Cell: 2, From: 8, To: 9},
		resv.Want{Cell: 0, From: 9, To: end}, resv.Want{Cell: 1, From: 9, To: end})
}

// P13.2: a move that ends at Forever leaves no tick behind it, one that ends a tick sooner just one.
func TestHoldsAtTheEnd(t *testing.T) {
	g := gridOf(t, plainConf(2, 1))
	holds(t, g, flat(0, 0), []api.Move{lift(flat(0, 0), end-4)},
		resv.Want{Cell: 0, From: 0, To: end - 4}, resv.Want{Cell: 1, From: 0, To: end - 4},
		resv.Want{Cell: 0, From: end - 4, To: end}, resv.Want{Cell: 1, From: end - 4, To: end})
	holds(t, g, flat(0, 0), []api.Move{lift(flat(0, 0), end-5)},
		resv.Want{Cell: 0, From: 0, To: end - 5}, resv.Want{Cell: 1, From: 0, To: end - 5},
		resv.Want{Cell: 0, From: end - 5, To: end - 1}, resv.Want{Cell: 1, From: end - 5, To: end - 1},
		resv.Want{Cell: 0, From: end - 1, To: end}, resv.Want{Cell: 1, From: end - 1, To: end})
}

// drawMoves is some legal moves from a pose, one behind the other, with waits as luck has it; how long each takes does not matter to Holds.
func drawMoves(luck *chance, g *grid.Grid, from api.Pose) []api.Move {
	var out []api.Move
	at := luck.below(3) * luck.below(5)
	for range luck.below(8) {
		l := append(slices.Collect(g.Moves(from)), api.Move{Kind: api.Lift, From: from, To: from}, api.Move{Kind: api.Drop, From: from, To: from})
		m := l[luck.below(len(l))]
		m.At, m.End = at, at+1+luck.below(5)
		out = append(out, m)
		from, at = m.To, m.End+luck.below(2)*luck.below(4)
	}
	return out
}

// P13.2: any moves, held against the chapter's words; and tick by tick the robot has just what it sweeps or stands on.
func TestHoldsIsPlain(t *testing.T) {
	var luck chance = 5
	waits, joined := 0, 0
	for range 2000 {
		c := drawConf(&luck, 5)
		g, all := gridOf(t, c), poses(c)
		from := all[luck.below(len(all))]
		moves := drawMoves(&luck, g, from)
		got := plan.Holds(g, from, moves)
		holds(t, g, from, moves, plainHolds(g, from, moves)...)
		for i := 1; i < len(moves); i++ {
			if moves[i].At > moves[i-1].End {
				waits++
			} else {
				joined++
			}
		}
		last := 3
		for _, m := range moves {
			last = m.End + 3
		}
		for tick := range last {
			var has []int
			for _, w := range got {
				if w.From <= tick && tick < w.To {
					has = append(has, w.Cell)
				}
			}
			if want := coverAt(g, from, moves, tick); !slices.Equal(has, want) {
				t.Fatalf("at %d it has %v, should %v: %v", tick, has, want, moves)
			}
		}
		for _, w := range got {
			if w.From < 0 || w.From >= w.To || w.To > end || w.Cell < 0 || w.Cell >= c.W*c.H {
				t.Fatalf("%v of %v", w, moves)
			}
		}
	}
	if waits < 500 || joined < 500 {
		t.Errorf("%d waits, %d without", waits, joined)
	}
}

// coverAt is the numbers of the cells that a robot needs at a tick, in order.
func coverAt(g *grid.Grid, from api.Pose, moves []api.Move, tick int) []int {
	cells := g.Cells(from)
	for _, m := range moves {
		if m.At <= tick && tick < m.End {
			cells = g.Swept(m)
		} else if m.End <= tick {
			cells = g.Cells(m.To)
		}
	}
	var out []int
	for _, c := range cells {
		out = append(out, g.Number(c))
	}
	return out
}
