package route_test

import (
	"math"
	"testing"

	"skep/api"
	"skep/resv"
	"skep/route"
)

// run is a move of plainConf, in which it takes as many ticks as cells; turn likewise takes 3.
func run(from api.Pose, dir, n, at int) api.Move {
	m := api.Move{Kind: api.Run, Dir: dir, N: n, From: from, To: from, At: at, End: at + n}
	switch dir {
	case api.North:
		m.To.At.Y -= n
	case api.East:
		m.To.At.X += n
	case api.South:
		m.To.At.Y += n
	case api.West:
		m.To.At.X -= n
	}
	return m
}

func turn(from api.Pose, at int) api.Move {
	return api.Move{Kind: api.Turn, From: from, To: api.Pose{At: from.At, Down: !from.Down}, At: at, End: at + 3}
}

// whole is a question that has an answer; cases turn one thing of it each.
func whole(t *testing.T) question {
	t.Helper()
	return question{c: plainConf(4, 3, cell(3, 2)), r: tableOf(t, 12), robot: 2, from: flat(0, 0), at: 5, goal: to(flat(2, 0))}
}

// P12.2: ErrConf, for each thing by which a config may not be.
func TestFindOfNoConf(t *testing.T) {
	for i, turn := range []func(c *api.Conf){
		func(c *api.Conf) { c.W = 0 },
		func(c *api.Conf) { c.W = 17 },
		func(c *api.Conf) { c.W = math.MinInt },
		func(c *api.Conf) { c.H = -3 },
		func(c *api.Conf) { c.H = math.MaxInt },
		func(c *api.Conf) { c.Height = 0 },
		func(c *api.Conf) { c.Unit = 0 },
		func(c *api.Conf) { c.Accel = 1001 },
		func(c *api.Conf) { c.Speed = -1 },
		func(c *api.Conf) { c.Turn = 0 },
		func(c *api.Conf) { c.Hoist = 0 },
		func(c *api.Conf) { c.Resend = 0 },
		func(c *api.Conf) { c.Queue = 0 },
		func(c *api.Conf) { c.Budget = 0 },
		func(c *api.Conf) { c.Budget = -1 },
		func(c *api.Conf) { c.Budget = api.MaxBudget + 1 },
		func(c *api.Conf) { c.Blocked = append(c.Blocked, cell(3, 2)) },
		func(c *api.Conf) { c.Ports = []api.Cell{cell(3, 2)} },
		func(c *api.Conf) { c.Robots = []api.Pose{flat(3, 0)} },
		func(c *api.Conf) { c.Stacks = []api.Stack{{At: cell(3, 2), Bins: []int{1}}} },
	} {
		q := whole(t)
		turn(&q.c)
		answers(t, q, nil, api.ErrConf)
		// It comes ahead of whatever else is wrong.
		q.r, q.robot, q.at, q.from, q.goal = nil, -1, -1, flat(9, 9), to(flat(9, 9))
		answers(t, q, nil, api.ErrConf)
		if t.Failed() {
			t.Fatalf("case %d", i)
		}
	}
}

// P12.2: ErrArg, for each thing that the chapter names, one by one.
func TestFindOfWrong(t *testing.T) {
	answers(t, whole(t), []api.Move{run(flat(0, 0), api.East, 2, 5)}, api.OK)
	for i, turn := range []func(q *question){
		func(q *question) { q.r = nil },
		func(q *question) { q.r = tableOf(t, 11) },
		func(q *question) { q.r = tableOf(t, 13) },
		func(q *question) { q.r = tableOf(t, 256) },
		func(q *question) { q.robot = -1 },
		func(q *question) { q.robot = math.MinInt },
		func(q *question) { q.at = -1 },
		func(q *question) { q.at = math.MinInt },
		func(q *question) { q.at = end },
		func(q *question) { q.at = math.MaxInt },
		func(q *question) { q.from = flat(3, 0) },
		func(q *question) { q.from = flat(-1, 0) },
		func(q *question) { q.from = flat(2, 2) },
		func(q *question) { q.from = down(3, 1) },
		func(q *question) { q.from = down(0, 2) },
		func(q *question) { q.from = flat(3, 2) },
		func(q *question) { q.from = flat(math.MaxInt, math.MinInt) },
		func(q *question) { q.goal = to(flat(3, 0)) },
		func(q *question) { q.goal = to(flat(-1, 0)) },
		func(q *question) { q.goal = to(flat(2, 2)) },
		func(q *question) { q.goal = to(down(3, 1)) },
		func(q *question) { q.goal = to(down(0, 2)) },
		func(q *question) { q.goal = to(down(0, math.MaxInt)) },
		func(q *question) { q.goal = toAny(flat(3, 2)) },
		func(q *question) { q.goal = toAny(down(4, 0)) },
		func(q *question) { q.goal = toAny(down(0, 3)) },
		func(q *question) { q.goal = toAny(down(0, -1)) },
		func(q *question) { q.goal = toAny(flat(math.MinInt, math.MaxInt)) },
	} {
		q := whole(t)
		turn(&q)
		answers(t, q, nil, api.ErrArg)
		if t.Failed() {
			t.Fatalf("case %d", i)
		}
	}
}

// P12.2: what the chapter does not refuse is taken: a robot of any number, a last tick, any first cell that is open.
func TestFindOfOdd(t *testing.T) {
	for _, robot := range []int{0, 7, 8, 1 << 40, math.MaxInt} {
		q := whole(t)
		q.robot = robot
		answers(t, q, []api.Move{run(flat(0, 0), api.East, 2, 5)}, api.OK)
	}
	q := whole(t)
	q.at, q.goal = 0, to(q.from)
	answers(t, q, nil, api.OK)
	q.at = end - 1
	answers(t, q, nil, api.OK)
	// To the east of 3, 1 is no cell, to its south a blocked one: it is open, and no pose is a goal.
	q = whole(t)
	q.goal = toAny(flat(3, 1))
	answers(t, q, nil, api.ErrRoute)
	// 3, 0 to the east does not fit, but with Any it is a cell alone.
	q.goal = toAny(flat(3, 0))
	answers(t, q, []api.Move{turn(flat(0, 0), 5), run(down(0, 0), api.East, 3, 8)}, api.OK)
}

// P12.2: ErrTaken where either cell of From is another's at just that tick, behind ErrArg and ahead of all that the search tells.
func TestFindOfTaken(t *testing.T) {
	for _, number := range []int{0, 1} {
		for at := range 12 {
			q := whole(t)
			q.at = at
			q.r = tableOf(t, 12, hold{1, number, 5, 9})
			taken := at >= 5 && at < 9
			if _, e := q.find(); (e == api.ErrTaken) != taken {
				t.Errorf("at %d: error %d", at, e)
			}
			q.robot = 1
			if _, e := q.find(); e != api.OK {
				t.Errorf("at %d, its own slot: error %d", at, e)
			}
		}
	}
	q := whole(t)
	q.r = tableOf(t, 12, hold{1, 0, 0, end})
	q.c.Budget = 1
	answers(t, q, nil, api.ErrTaken)
	q.goal = to(q.from)
	answers(t, q, nil, api.ErrTaken)
	q.goal = to(flat(3, 0))
	answers(t, q, nil, api.ErrArg)
	q = whole(t)
	q.r, q.at = tableOf(t, 12, hold{1, 1, end - 1, end}), end-1
	answers(t, q, nil, api.ErrTaken)
}

// P12.2 and the example: a start that is a goal, with a stretch to Forever: no moves.
func TestFindAtGoal(t *testing.T) {
	for _, budget := range []int{1, 2, api.MaxBudget} {
		q := whole(t)
		q.c.Budget = budget
		for _, goal := range []route.Goal{to(flat(0, 0)), toAny(flat(0, 0)), toAny(down(0, 0))} {
			q.goal = goal
			answers(t, q, nil, api.OK)
		}
	}
	// Others' slots that have ended by then, and the robot's own to Forever, are not in its way.
	q := whole(t)
	q.goal = to(q.from)
	q.r = tableOf(t, 12, hold{1, 0, 0, 5}, hold{2, 0, 5, end}, hold{2, 1, 8, 9}, hold{1, 2, 0, end})
	answers(t, q, nil, api.OK)
}

// P12.2: a start that is a goal's pose, but whose stretch ends: the robot goes aside and comes again.
func TestFindAtGoalForAWhile(t *testing.T) {
	q := question{c: plainConf(5, 1), r: tableOf(t, 5, hold{1, 0, 5, 8}), from: flat(0, 0), goal: to(flat(0, 0))}
	answers(t, q, []api.Move{run(flat(0, 0), api.East, 1, 0), run(flat(1, 0), api.West, 1, 8)}, api.OK)
	q.at = 3
	answers(t, q, []api.Move{run(flat(0, 0), api.East, 1, 3), run(flat(1, 0), api.West, 1, 8)}, api.OK)
	q.at = 8
	answers(t, q, nil, api.OK)
	q.at = 4
	answers(t, q, []api.Move{run(flat(0, 0), api.East, 1, 4), run(flat(1, 0), api.West, 1, 8)}, api.OK)
	// A goal that is another's at last is none.
	q.r, q.at = tableOf(t, 5, hold{1, 0, 100, end}), 0
	answers(t, q, nil, api.ErrRoute)
}

// P12.2: departures and ends among others' slots, at the very ticks where they begin and end.
func TestFindAmongOthers(t *testing.T) {
	row := plainConf(5, 1)
	home := flat(0, 0)
	for i, c := range []struct {
		holds []hold
		want  []api.Move
	}{
		{nil, []api.Move{run(home, api.East, 3, 0)}},
		// It waits till the way is free.
		{[]hold{{1, 2, 0, 10}}, []api.Move{run(home, api.East, 3, 10)}},
		// A slot that begins where the run ends is not in its way; one tick sooner it is.
		{[]hold{{1, 0, 3, end}}, []api.Move{run(home, api.East, 3, 0)}},
		{[]hold{{1, 0, 2, end}}, []api.Move{run(home, api.East, 1, 0), run(flat(1, 0), api.East, 2, 1)}},
		{[]hold{{1, 0, 1, end}, {1, 1, 2, end}}, []api.Move{run(home, api.East, 1, 0), run(flat(1, 0), api.East, 1, 1), run(flat(2, 0), api.East, 1, 2)}},
		// It may not end where the pose is another's at just that tick.
		{[]hold{{1, 4, 3, 6}}, []api.Move{run(home, api.East, 2, 0), run(flat(2, 0), api.East, 1, 6)}},
		{[]hold{{1, 4, 2, 3}}, []api.Move{run(home, api.East, 2, 0), run(flat(2, 0), api.East, 1, 3)}},
		{[]hold{{1, 4, 0, 2}}, []api.Move{run(home, api.East, 2, 0), run(flat(2, 0), api.East, 1, 2)}},
		// It must be away in time, and may not stand where others come by.
		{[]hold{{1, 0, 4, 20}, {1, 4, 0, 30}, {1, 3, 7, 30}}, []api.Move{run(home, api.East, 1, 0), run(flat(1, 0), api.East, 2, 30)}},
		// Its own slots are no hindrance.
		{[]hold{{0, 0, 0, 7}, {0, 2, 1, end}, {0, 4, 2, 4}}, []api.Move{run(home, api.East, 3, 0)}},
	} {
		q := question{c: row, r: tableOf(t, 5, c.holds...), from: home, goal: to(flat(3, 0))}
		answers(t, q, c.want, api.OK)
		if t.Failed() {
			t.Fatalf("case %d", i)
		}
	}
}

// P12.2: a stretch that is too short for a move is passed over; one that has just its length is taken.
func TestFindInShortStretches(t *testing.T) {
	for length := 1; length < 6; length++ {
		q := question{c: plainConf(5, 1), from: flat(0, 0), goal: to(flat(3, 0))}
		q.r = tableOf(t, 5, hold{1, 2, 0, 10}, hold{1, 2, 10 + length, 50})
		switch {
		case length < 3:
			answers(t, q, []api.Move{run(q.from, api.East, 3, 50)}, api.OK)
		default:
			answers(t, q, []api.Move{run(q.from, api.East, 3, 10)}, api.OK)
		}
	}
	// The pose's own stretch is too short for any move: nothing is left.
	q := question{c: plainConf(5, 1), from: flat(0, 0), goal: to(flat(3, 0))}
	q.r = tableOf(t, 5, hold{1, 2, 0, 10}, hold{1, 0, 10, 12})
	answers(t, q, nil, api.ErrRoute)
}

// P12.2: the cells that a turn sweeps, all four and no other, are asked for while it turns.
func TestFindTurns(t *testing.T) {
	for _, from := range []api.Pose{flat(0, 0), down(0, 0)} {
		goal := to(api.Pose{At: from.At, Down: !from.Down})
		for number := range 9 {
			x, y := number%3, number/3
			if x < 2 && y < 2 {
				continue
			}
			q := question{c: plainConf(3, 3), from: from, goal: goal, at: 1, r: tableOf(t, 9, hold{1, number, 0, 40})}
			answers(t, q, []api.Move{turn(from, 1)}, api.OK)
		}
		// In 2 by 2 cells there is no way round: it turns ahead of a slot that begins when it has turned, unless the goal has that cell; else behind it.
		beside, across := 2, 3
		if from.Down {
			beside = 1
		}
		ask := func(number, since, at int) {
			t.Helper()
			q := question{c: plainConf(2, 2), from: from, goal: goal, at: 1, r: tableOf(t, 4, hold{1, number, since, 40})}
			answers(t, q, []api.Move{turn(from, at)}, api.OK)
		}
		ask(across, 4, 1)
		ask(across, 3, 40)
		ask(across, 0, 40)
		ask(beside, 4, 40)
		ask(beside, 0, 40)
		ask(3-beside, 4, 1)
	}
	// 2 by 2 cells with one blocked: there is no turn, and so no way to the other pose.
	q := question{c: plainConf(2, 2, cell(1, 1)), r: tableOf(t, 4), from: flat(0, 0), goal: to(down(0, 0))}
	answers(t, q, nil, api.ErrRoute)
}

// P12.2: of ways that are alike the one that the search finds.
func TestFindOfAlike(t *testing.T) {
	c := plainConf(4, 4)
	r := tableOf(t, 16)
	ask := func(from api.Pose, goal route.Goal, want ...api.Move) {
		t.Helper()
		answers(t, question{c: c, r: r, from: from, at: 7, goal: goal}, want, api.OK)
	}
	// One run is found ahead of two that end as soon.
	ask(flat(0, 0), to(flat(2, 0)), run(flat(0, 0), api.East, 2, 7))
	ask(flat(0, 3), to(flat(0, 0)), run(flat(0, 3), api.North, 3, 7))
	// Of two poses that are reached as soon the one with the lower number is taken first.
	ask(flat(0, 0), to(flat(1, 1)), run(flat(0, 0), api.East, 1, 7), run(flat(1, 0), api.South, 1, 8))
	ask(flat(1, 1), to(flat(0, 0)), run(flat(1, 1), api.North, 1, 7), run(flat(1, 0), api.West, 1, 8))
	ask(flat(0, 1), to(flat(1, 0)), run(flat(0, 1), api.North, 1, 7), run(flat(0, 0), api.East, 1, 8))
	ask(flat(1, 0), to(flat(0, 1)), run(flat(1, 0), api.West, 1, 7), run(flat(0, 0), api.South, 1, 8))
	// The pose that is reached first counts ahead of the number: 0, 1 is taken ahead of 2, 0.
	ask(flat(0, 0), to(flat(2, 1)), run(flat(0, 0), api.South, 1, 7), run(flat(0, 1), api.East, 2, 8))
	ask(flat(0, 0), to(flat(1, 2)), run(flat(0, 0), api.East, 1, 7), run(flat(1, 0), api.South, 2, 8))
	// With Any: what is reached first; a goal that is alike has the lower number if it is not Down.
	ask(flat(0, 0), toAny(down(2, 2)), run(flat(0, 0), api.East, 2, 7), run(flat(2, 0), api.South, 2, 9))
	ask(down(0, 0), toAny(flat(2, 2)), run(down(0, 0), api.East, 2, 7), run(down(2, 0), api.South, 2, 9))
	// At 3, 0 only a pose that is Down fits.
	ask(flat(2, 0), toAny(flat(3, 0)), turn(flat(2, 0), 7), run(down(2, 0), api.East, 1, 10))
}

// P12.2: where both poses of the goal's cell are reached at one tick, the one that is not Down is taken.
func TestFindOfBothPoses(t *testing.T) {
	c := plainConf(4, 4)
	c.Turn = 1
	// A slot on 2, 0 till 1 lets the run to 1, 0 end at 2, when a turn and a run end there too.
	q := question{c: c, r: tableOf(t, 16, hold{1, 2, 0, 1}), from: flat(0, 0), goal: toAny(down(1, 0))}
	answers(t, q, []api.Move{run(flat(0, 0), api.East, 1, 1)}, api.OK)
	// One tick more, and the other one is first.
	q.r = tableOf(t, 16, hold{1, 2, 0, 2})
	answers(t, q, []api.Move{
		{Kind: api.Turn, From: flat(0, 0), To: down(0, 0), At: 0, End: 1},
		run(down(0, 0), api.East, 1, 1),
	}, api.OK)
}

// P12.2: goals with Any and without, the first cell alone or the pose.
func TestFindGoals(t *testing.T) {
	c, r := plainConf(4, 4), tableOf(t, 16)
	ask := func(goal route.Goal, want ...api.Move) {
		t.Helper()
		answers(t, question{c: c, r: r, from: flat(0, 0), goal: goal}, want, api.OK)
	}
	ask(to(flat(2, 0)), run(flat(0, 0), api.East, 2, 0))
	ask(toAny(flat(2, 0)), run(flat(0, 0), api.East, 2, 0))
	ask(toAny(down(2, 0)), run(flat(0, 0), api.East, 2, 0))
	ask(to(down(2, 0)), run(flat(0, 0), api.East, 2, 0), turn(flat(2, 0), 2))
	ask(to(down(0, 0)), turn(flat(0, 0), 0))
	ask(toAny(flat(0, 0)))
	ask(toAny(flat(0, 3)), run(flat(0, 0), api.South, 3, 0))
	// The second cell is no goal: the robot has 1, 0 already, and 1, 0 is not its first cell.
	ask(toAny(flat(1, 0)), run(flat(0, 0), api.East, 1, 0))
}

// P12.2: with Any a pose that is free for a while alone is none, but the other one may be.
func TestFindAnyForEver(t *testing.T) {
	q := question{c: plainConf(3, 3), from: flat(0, 0), goal: toAny(flat(0, 0))}
	q.r = tableOf(t, 9, hold{1, 1, 50, end})
	answers(t, q, []api.Move{turn(flat(0, 0), 0)}, api.OK)
	q.r = tableOf(t, 9, hold{1, 1, 50, end}, hold{1, 3, 60, end})
	answers(t, q, nil, api.ErrRoute)
}

// budgets fails unless a question's answer takes just so many states: at one Budget less it is ErrBudget.
func budgets(t *testing.T, q question, taken int, want []api.Move, e api.Errno) {
	t.Helper()
	q.c.Budget = api.MaxBudget
	answers(t, q, want, e)
	if e == api.ErrRoute {
		// All states were taken: then the budget is spent too, which is named first.
		q.c.Budget = taken
		answers(t, q, nil, api.ErrBudget)
		taken++
	}
	q.c.Budget = taken
	answers(t, q, want, e)
	if taken > 1 {
		q.c.Budget = taken - 1
		answers(t, q, nil, api.ErrBudget)
	}
}

// P12.2: ErrBudget at just Budget states without a goal, and no sooner.
func TestFindBudget(t *testing.T) {
	row := question{c: plainConf(5, 1), r: tableOf(t, 5), from: flat(0, 0)}
	row.goal = to(flat(0, 0))
	budgets(t, row, 1, nil, api.OK)
	row.goal = to(flat(1, 0))
	budgets(t, row, 2, []api.Move{run(flat(0, 0), api.East, 1, 0)}, api.OK)
	row.goal = to(flat(3, 0))
	budgets(t, row, 4, []api.Move{run(flat(0, 0), api.East, 3, 0)}, api.OK)
	// 2 by 2 cells: South 1 takes a tick, the turn 3: the goal is the last of the three states behind a run.
	four := question{c: plainConf(2, 2), r: tableOf(t, 4), from: flat(0, 0), goal: to(down(0, 0))}
	budgets(t, four, 3, []api.Move{turn(flat(0, 0), 0)}, api.OK)
	// Nobody comes beyond a robot that stands: two of the four poses are left.
	row.goal, row.r = to(flat(3, 0)), tableOf(t, 5, hold{1, 3, 0, end})
	budgets(t, row, 2, nil, api.ErrRoute)
	// Stretches are counted, not poses: 0, 0 is another's from 4 to 6, so that it has two of them; 1, 0 has one, 3, 0 none.
	row.r = tableOf(t, 5, hold{1, 3, 0, end}, hold{2, 0, 4, 6})
	budgets(t, row, 3, nil, api.ErrRoute)
}

// P12.2: ErrRoute where no state is left: the way is barred, for ever or by blocked cells, or there is no time left.
func TestFindNoRoute(t *testing.T) {
	answers(t, question{c: plainConf(5, 2, cell(2, 0), cell(2, 1)), r: tableOf(t, 10), from: flat(0, 0), goal: to(flat(3, 0))}, nil, api.ErrRoute)
	answers(t, question{c: plainConf(2, 1), r: tableOf(t, 2), from: flat(0, 0), goal: toAny(flat(1, 0))}, nil, api.ErrRoute)
	answers(t, question{c: plainConf(5, 1), r: tableOf(t, 5, hold{1, 4, 50, end}), from: flat(0, 0), goal: to(flat(3, 0))}, nil, api.ErrRoute)
	answers(t, question{c: plainConf(5, 1), r: tableOf(t, 5, hold{1, 3, 50, end}), from: flat(0, 0), goal: to(flat(3, 0))}, nil, api.ErrRoute)
	answers(t, question{c: plainConf(5, 1), r: tableOf(t, 5, hold{0, 4, 50, end}), from: flat(0, 0), goal: to(flat(3, 0))}, []api.Move{run(flat(0, 0), api.East, 3, 0)}, api.OK)
}

// P12.2: a move ends ahead of Forever, or there is none.
func TestFindNearForever(t *testing.T) {
	q := question{c: plainConf(5, 1), r: tableOf(t, 5), from: flat(0, 0)}
	for left := 1; left < 8; left++ {
		for n := 1; n < 4; n++ {
			q.at, q.goal = end-left, to(flat(n, 0))
			if n < left {
				answers(t, q, []api.Move{run(flat(0, 0), api.East, n, end-left)}, api.OK)
			} else {
				answers(t, q, nil, api.ErrRoute)
			}
		}
	}
	q.at, q.r, q.goal = 0, tableOf(t, 5, hold{1, 2, 0, end - 3}), to(flat(1, 0))
	answers(t, q, []api.Move{run(flat(0, 0), api.East, 1, end-3)}, api.OK)
	q.goal = to(flat(3, 0))
	answers(t, q, nil, api.ErrRoute)
}

// P12.2: the search, held against one that does the chapter's words, with budgets about what it takes.
func TestFindOfAny(t *testing.T) {
	var luck chance = 11
	count := map[api.Errno]int{}
	long, waits := 0, 0
	for range 6000 {
		q := drawQuestion(&luck, 4)
		moves, e, taken := plainFind(t, q)
		answers(t, q, moves, e)
		count[e]++
		last := q.at
		for _, m := range moves {
			if m.At > last {
				waits++
			}
			last = m.End
		}
		if len(moves) > 2 {
			long++
		}
		for d := -1; d <= 1; d++ {
			if q.c.Budget = taken + d; q.c.Budget > 0 {
				moves, e, _ := plainFind(t, q)
				answers(t, q, moves, e)
				count[e]++
			}
		}
	}
	if count[api.OK] < 1000 || count[api.ErrRoute] < 500 || count[api.ErrBudget] < 1000 || count[api.ErrTaken] < 300 || long < 300 || waits < 500 || len(count) != 4 {
		t.Errorf("%v, %d long, %d waits", count, long, waits)
	}
}

// P12.2: the same near the end of time, where many ways come too late.
func TestFindOfAnyNearForever(t *testing.T) {
	var luck chance = 17
	count := map[api.Errno]int{}
	for range 1500 {
		q := drawQuestion(&luck, 4)
		q.r, _ = resv.New(q.c.W * q.c.H)
		fill(&luck, q.r, luck.below(30), end-45, 15)
		q.at = end - 1 - luck.below(50)
		moves, e, _ := plainFind(t, q)
		answers(t, q, moves, e)
		count[e]++
	}
	if count[api.OK] < 300 || count[api.ErrRoute] < 300 || count[api.ErrTaken] < 20 {
		t.Errorf("%v", count)
	}
}

// P12.2: greater hives, with more slots, ports, robots and stacks, none of which are in a robot's way by themselves.
func TestFindInGreater(t *testing.T) {
	var luck chance = 23
	for range 25 {
		c := plainConf(9, 8, cell(4, 4), cell(4, 5))
		c.Unit, c.Accel, c.Speed, c.Turn = 4, 1, 3, 5
		c.Ports = []api.Cell{cell(7, 0)}
		c.Robots = []api.Pose{flat(0, 0), down(0, 1)}
		c.Stacks = []api.Stack{{At: cell(1, 1), Bins: []int{7}}}
		r, _ := resv.New(72)
		fill(&luck, r, 150, 0, 30)
		all := poses(c)
		q := question{c: c, r: r, from: all[luck.below(len(all))], at: luck.below(20), robot: luck.below(3)}
		q.goal = route.Goal{Pose: all[luck.below(len(all))], Any: luck.below(2) == 0}
		moves, e, _ := plainFind(t, q)
		answers(t, q, moves, e)
	}
}
