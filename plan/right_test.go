package plan_test

import (
	"math"
	"slices"
	"testing"

	"skep/api"
	"skep/kinem"
	"skep/plan"
	"skep/resv"
)

// right fails unless Right tells this.
func right(t *testing.T, c api.Conf, from api.Pose, moves []api.Move, want bool) {
	t.Helper()
	if got := plan.Right(c, kinOf(t, c), from, moves); got != want {
		t.Errorf("Right of %v from %v: %v", moves, from, got)
	}
}

// P13.3: no moves are right, from wherever.
func TestRightOfNoMoves(t *testing.T) {
	c := plainConf(5, 2, cell(4, 1))
	for _, from := range append(poses(c), flat(4, 0), flat(4, 1), down(0, 1), flat(-1, -1), down(math.MaxInt, math.MinInt)) {
		right(t, c, from, nil, true)
		right(t, c, from, []api.Move{}, true)
	}
}

// P13.3: one move of each kind, at 0 and later; not ahead of 0, and not from elsewhere.
func TestRightOfOneMove(t *testing.T) {
	c := plainConf(5, 2)
	for _, m := range []api.Move{
		run(flat(0, 0), api.East, 3, 0), run(flat(3, 1), api.North, 1, 0), run(down(4, 0), api.West, 4, 0), run(flat(1, 0), api.South, 1, 0),
		turn(flat(2, 0), 0), turn(down(0, 0), 0), lift(flat(3, 1), 0), drop(down(4, 0), 0),
	} {
		lasts := m.End
		for _, at := range []int{0, 1, 77, 1 << 40, end - 1 - lasts} {
			m.At, m.End = at, at+lasts
			right(t, c, m.From, []api.Move{m}, true)
			right(t, c, flat(1, 1), []api.Move{m}, false)
			right(t, c, api.Pose{At: m.From.At, Down: !m.From.Down}, []api.Move{m}, false)
		}
		for _, at := range []int{-1, -lasts, -lasts - 1, -1 << 40, math.MinInt, end - lasts, end - 1, end, end + 1, math.MaxInt - lasts, math.MaxInt - lasts + 1, math.MaxInt} {
			// The sum may wrap round, and yet it is not right.
			m.At, m.End = at, at+lasts
			right(t, c, m.From, []api.Move{m}, false)
		}
	}
}

// P13.3: a move that ends a tick early or late is not right, whatever kind it is; how long a run takes is k's to say, how long the others take the config's.
func TestRightOfTimes(t *testing.T) {
	c := plainConf(5, 2)
	c.Turn, c.Hoist = 7, 9
	k, _ := kinem.New(10, 2, 4)
	moves := []api.Move{run(flat(0, 0), api.East, 2, 10), turn(flat(2, 0), 0), lift(down(2, 0), 0), drop(down(2, 0), 0)}
	lasts := []int{k.Time(2), 7, 9, 9}
	at := 10
	for i := range moves {
		moves[i].At, moves[i].End = at, at+lasts[i]
		at += lasts[i]
	}
	if !plan.Right(c, k, flat(0, 0), moves) {
		t.Error(moves)
	}
	// By the config's own numbers the run takes 2 ticks.
	right(t, c, flat(0, 0), moves, false)
	for i := range moves {
		for _, by := range []int{-lasts[i] - 1, -lasts[i], -2, -1, 1, 2, 1000} {
			turned := slices.Clone(moves)
			turned[i].End += by
			if plan.Right(c, k, flat(0, 0), turned[:i+1]) || plan.Right(c, k, flat(0, 0), turned) {
				t.Errorf("move %d that ends %d later", i, by)
			}
		}
	}
}

// P13.3: moves may wait for each other, and begin at the very tick at which the last one ended, but not ahead of it.
func TestRightOfFollowing(t *testing.T) {
	c := plainConf(5, 1)
	for at := range 12 {
		right(t, c, flat(0, 0), []api.Move{run(flat(0, 0), api.East, 3, 2), lift(flat(3, 0), at)}, at >= 5)
		right(t, c, flat(0, 0), []api.Move{run(flat(0, 0), api.East, 3, at), lift(flat(3, 0), 7), run(flat(3, 0), api.West, 1, 11)}, at <= 4)
		right(t, c, flat(0, 0), []api.Move{run(flat(0, 0), api.East, 3, 0), lift(flat(3, 0), 3), run(flat(3, 0), api.West, 1, at)}, at >= 7)
	}
	// Each begins where the last one ended, not where another one did.
	right(t, c, flat(0, 0), []api.Move{run(flat(0, 0), api.East, 3, 0), lift(flat(2, 0), 3)}, false)
	right(t, c, flat(0, 0), []api.Move{run(flat(0, 0), api.East, 3, 0), lift(flat(0, 0), 3)}, false)
	right(t, c, flat(0, 0), []api.Move{lift(flat(0, 0), 0), run(flat(0, 0), api.East, 3, 4), run(flat(0, 0), api.East, 3, 7)}, false)
}

// P13.3: moves that are not legal are not right: beyond the edge, over a blocked cell, by a number that is not 0, of a kind that there is not.
func TestRightOfNotLegal(t *testing.T) {
	c := plainConf(5, 2, cell(4, 1))
	for _, m := range []api.Move{
		run(flat(0, 0), api.East, 4, 0), run(flat(0, 0), api.North, 1, 0), run(flat(0, 0), api.West, 1, 0), run(flat(0, 0), api.East, 0, 0), run(flat(3, 0), api.West, -1, 0),
		run(flat(2, 1), api.East, 1, 0), run(flat(3, 0), api.South, 1, 0), run(flat(0, 0), 4, 1, 0), run(flat(0, 0), -1, 1, 0),
		turn(flat(3, 0), 0), turn(flat(0, 1), 0),
		lift(flat(4, 0), 0), drop(flat(3, 1), 0), lift(flat(-1, 0), 0),
		{From: flat(0, 0), To: flat(0, 0)}, {Kind: 5, From: flat(0, 0), To: flat(0, 0)}, {Kind: -1, From: flat(0, 0), To: flat(0, 0)},
		{Kind: api.Lift, Dir: 1, From: flat(0, 0), To: flat(0, 0), End: 4}, {Kind: api.Drop, N: 1, From: flat(0, 0), To: flat(0, 0), End: 4},
		{Kind: api.Turn, Dir: 2, From: flat(0, 0), To: down(0, 0), End: 3}, {Kind: api.Turn, From: flat(0, 0), To: flat(0, 0), End: 3},
		{Kind: api.Lift, From: flat(0, 0), To: down(0, 0), End: 4},
	} {
		right(t, c, m.From, []api.Move{m}, false)
	}
}

// P13.3: in a config that may not be no move is legal; of no moves each one is.
func TestRightOfNoConf(t *testing.T) {
	k := kinOf(t, plainConf(5, 1))
	for _, turn := range []func(c *api.Conf){
		func(c *api.Conf) { *c = api.Conf{} },
		func(c *api.Conf) { c.W = 17 },
		func(c *api.Conf) { c.W = math.MinInt },
		func(c *api.Conf) { c.Queue = 0 },
		func(c *api.Conf) { c.Budget = 0 },
		func(c *api.Conf) { c.Blocked = []api.Cell{cell(4, 0), cell(4, 0)} },
		func(c *api.Conf) { c.Hoist = math.MaxInt },
		func(c *api.Conf) { c.Hoist = -4 },
	} {
		c := plainConf(5, 1)
		turn(&c)
		if plan.Right(c, k, flat(0, 0), []api.Move{run(flat(0, 0), api.East, 1, 0)}) || plan.Right(c, k, flat(0, 0), []api.Move{lift(flat(0, 0), 0)}) {
			t.Errorf("%v", c)
		}
		if !plan.Right(c, k, flat(0, 0), nil) {
			t.Errorf("%v: no moves", c)
		}
	}
}

// turns is each way to turn one number of a move.
func turns() []func(m *api.Move, by int) {
	flip := func(b *bool, by int) { *b = *b != (by%2 != 0) }
	return []func(m *api.Move, by int){
		func(m *api.Move, by int) { m.Kind += by },
		func(m *api.Move, by int) { m.Dir += by },
		func(m *api.Move, by int) { m.N += by },
		func(m *api.Move, by int) { m.From.At.X += by },
		func(m *api.Move, by int) { m.From.At.Y += by },
		func(m *api.Move, by int) { flip(&m.From.Down, by) },
		func(m *api.Move, by int) { m.To.At.X += by },
		func(m *api.Move, by int) { m.To.At.Y += by },
		func(m *api.Move, by int) { flip(&m.To.Down, by) },
		func(m *api.Move, by int) { m.At += by },
		func(m *api.Move, by int) { m.End += by },
	}
}

// P13.3: a round in which any number of any move is turned, one by one, is not right, but where a Lift becomes a Drop.
func TestRightOfOneTurned(t *testing.T) {
	q := question{c: plainConf(4, 4, cell(3, 3)), r: tableOf(t, 16), from: flat(0, 0), at: 3, home: down(0, 1)}
	q.stops = []plan.Stop{lifts(3, 1), drops(0, 3), lifts(0, 3), drops(2, 2)}
	moves, e := q.round()
	if e != api.OK || len(moves) < 12 {
		t.Fatal(moves, e)
	}
	right(t, q.c, q.from, moves, true)
	for i := range moves {
		for field, turn := range turns() {
			for _, by := range []int{-3, -2, -1, 1, 2, 3, 4, 1 << 32, 1 << 62, math.MinInt} {
				turned := slices.Clone(moves)
				turn(&turned[i], by)
				m := turned[i]
				if m == moves[i] {
					continue
				}
				other := moves[i]
				other.Kind = m.Kind
				want := m == other && moves[i].Kind >= api.Lift && (m.Kind == api.Lift || m.Kind == api.Drop)
				if got := plan.Right(q.c, kinOf(t, q.c), q.from, turned); got != want {
					t.Fatalf("move %d, number %d by %d: %v of %v", i, field, by, got, turned)
				}
			}
		}
	}
}

// P13.3: a whole that is left out, or told twice, leaves moves that do not follow.
func TestRightOfLeftOut(t *testing.T) {
	c := plainConf(5, 1)
	moves := []api.Move{run(flat(0, 0), api.East, 3, 0), run(flat(3, 0), api.West, 2, 8), run(flat(1, 0), api.West, 1, 12)}
	right(t, c, flat(0, 0), moves, true)
	right(t, c, flat(0, 0), moves[1:], false)
	right(t, c, flat(3, 0), moves[1:], true)
	right(t, c, flat(0, 0), []api.Move{moves[0], moves[2]}, false)
	right(t, c, flat(0, 0), []api.Move{moves[0], moves[0]}, false)
	right(t, c, flat(0, 0), []api.Move{moves[1], moves[0], moves[2]}, false)
	right(t, c, flat(0, 0), moves[:2], true)
}

// P13.3: any moves, held against the chapter's words: rounds, legal moves at any times, and both with numbers turned.
func TestRightIsPlain(t *testing.T) {
	var luck chance = 7
	numbers := append(ends(), -1, 0, 1, 2, 3, 4, end-1)
	yes, no := 0, 0
	for range 4000 {
		q := drawQuestion(&luck, 5)
		q.r, _ = resv.New(q.c.W * q.c.H)
		g, k := gridOf(t, q.c), kinOf(t, q.c)
		moves, _ := q.round()
		if luck.below(3) == 0 {
			moves = drawMoves(&luck, g, q.from)
		}
		// Waits, and ends of time.
		shift := []int{0, luck.below(9), end - 1 - luck.below(60), -luck.below(50)}[luck.below(4)]
		for i := range moves {
			shift += luck.below(2) * luck.below(3)
			moves[i].At += shift
			moves[i].End += shift
		}
		if n := len(moves); n > 0 && luck.below(2) == 0 {
			l := turns()
			l[luck.below(len(l))](&moves[luck.below(n)], numbers[luck.below(len(numbers))])
		}
		want := plainRight(g, q.c, k, q.from, moves)
		if plan.Right(q.c, k, q.from, moves) != want {
			t.Fatalf("Right of %v from %v in %v: %v", moves, q.from, q.c, !want)
		}
		if want && len(moves) > 0 {
			yes++
		} else if !want {
			no++
		}
	}
	if yes < 500 || no < 500 {
		t.Errorf("%d right, %d not", yes, no)
	}
}
