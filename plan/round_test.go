package plan_test

import (
	"math"
	"slices"
	"testing"

	"skep/api"
	"skep/plan"
)

// row is a question in a row of five cells, for the robot 2 at its west end, home there.
func row(t *testing.T, at int, stops ...plan.Stop) question {
	t.Helper()
	return question{c: plainConf(5, 1), r: tableOf(t, 5), robot: 2, from: flat(0, 0), at: at, stops: stops, home: flat(0, 0)}
}

// P13.1 and the example: without stops, at home: no moves; away from it just the way home.
func TestRoundWithoutStops(t *testing.T) {
	for _, at := range []int{0, 1, 7, end - 1} {
		answers(t, row(t, at), nil, api.OK)
		for _, p := range poses(plainConf(3, 3)) {
			answers(t, question{c: plainConf(3, 3), r: tableOf(t, 9), from: p, at: at, home: p}, nil, api.OK)
		}
	}
	q := row(t, 7)
	q.home = flat(3, 0)
	answers(t, q, []api.Move{run(flat(0, 0), api.East, 3, 7)}, api.OK)
	q.stops = []plan.Stop{}
	answers(t, q, []api.Move{run(flat(0, 0), api.East, 3, 7)}, api.OK)
	// Home is just that pose, not the other one with its first cell.
	q = question{c: plainConf(2, 2), r: tableOf(t, 4), from: flat(0, 0), at: 5, home: down(0, 0)}
	answers(t, q, []api.Move{turn(flat(0, 0), 5)}, api.OK)
}

// P13.1: one stop: out, what is done there, and home, each from where and when the last one ended.
func TestRoundOfOneStop(t *testing.T) {
	answers(t, row(t, 7, lifts(3, 0)), []api.Move{run(flat(0, 0), api.East, 3, 7), lift(flat(3, 0), 10), run(flat(3, 0), api.West, 3, 14)}, api.OK)
	answers(t, row(t, 0, drops(1, 0)), []api.Move{run(flat(0, 0), api.East, 1, 0), drop(flat(1, 0), 1), run(flat(1, 0), api.West, 1, 5)}, api.OK)
	// Where the robot is already it is done at at, and there is no way.
	answers(t, row(t, 7, lifts(0, 0)), []api.Move{lift(flat(0, 0), 7)}, api.OK)
	q := row(t, 7, drops(0, 0))
	q.home = flat(2, 0)
	answers(t, q, []api.Move{drop(flat(0, 0), 7), run(flat(0, 0), api.East, 2, 11)}, api.OK)
	// The stop is home.
	q = row(t, 7, drops(2, 0))
	q.home = flat(2, 0)
	answers(t, q, []api.Move{run(flat(0, 0), api.East, 2, 7), drop(flat(2, 0), 9)}, api.OK)
}

// P13.1: at a stop any pose with its first cell will do, and it is the first cell that counts.
func TestRoundOfAnyPose(t *testing.T) {
	square := question{c: plainConf(3, 3), r: tableOf(t, 9), from: down(0, 0), at: 2, home: down(0, 0)}
	square.stops = []plan.Stop{lifts(1, 1)}
	answers(t, square, []api.Move{
		run(down(0, 0), api.East, 1, 2), run(down(1, 0), api.South, 1, 3), lift(down(1, 1), 4),
		run(down(1, 1), api.North, 1, 8), run(down(1, 0), api.West, 1, 9),
	}, api.OK)
	square.from, square.home = flat(0, 0), flat(0, 0)
	answers(t, square, []api.Move{
		run(flat(0, 0), api.East, 1, 2), run(flat(1, 0), api.South, 1, 3), lift(flat(1, 1), 4),
		run(flat(1, 1), api.North, 1, 8), run(flat(1, 0), api.West, 1, 9),
	}, api.OK)
	// At the east edge only a pose to the south fits, at the south edge only one to the east.
	square.stops = []plan.Stop{lifts(2, 0)}
	answers(t, square, []api.Move{
		turn(flat(0, 0), 2), run(down(0, 0), api.East, 2, 5), lift(down(2, 0), 7),
		run(down(2, 0), api.West, 2, 11), turn(down(0, 0), 13),
	}, api.OK)
	// Its second cell is no place to lift from.
	answers(t, row(t, 0, lifts(1, 0)), []api.Move{run(flat(0, 0), api.East, 1, 0), lift(flat(1, 0), 1), run(flat(1, 0), api.West, 1, 5)}, api.OK)
}

// P13.1: several stops, lifts and drops in any order, two at one cell.
func TestRoundOfSeveralStops(t *testing.T) {
	answers(t, row(t, 7, lifts(3, 0), drops(1, 0)), []api.Move{
		run(flat(0, 0), api.East, 3, 7), lift(flat(3, 0), 10),
		run(flat(3, 0), api.West, 2, 14), drop(flat(1, 0), 16),
		run(flat(1, 0), api.West, 1, 20),
	}, api.OK)
	answers(t, row(t, 1, drops(2, 0), drops(2, 0), lifts(2, 0)), []api.Move{
		run(flat(0, 0), api.East, 2, 1), drop(flat(2, 0), 3), drop(flat(2, 0), 7), lift(flat(2, 0), 11),
		run(flat(2, 0), api.West, 2, 15),
	}, api.OK)
	answers(t, row(t, 0, lifts(0, 0), lifts(3, 0), drops(0, 0), drops(3, 0)), []api.Move{
		lift(flat(0, 0), 0),
		run(flat(0, 0), api.East, 3, 4), lift(flat(3, 0), 7),
		run(flat(3, 0), api.West, 3, 11), drop(flat(0, 0), 14),
		run(flat(0, 0), api.East, 3, 18), drop(flat(3, 0), 21),
		run(flat(3, 0), api.West, 3, 25),
	}, api.OK)
}

// P13.1: Hoist is the config's.
func TestRoundHoists(t *testing.T) {
	for _, hoist := range []int{1, 2, 999, 1000} {
		q := row(t, 7, lifts(3, 0), drops(3, 0))
		q.c.Hoist = hoist
		p := flat(3, 0)
		answers(t, q, []api.Move{
			run(flat(0, 0), api.East, 3, 7),
			{Kind: api.Lift, From: p, To: p, At: 10, End: 10 + hoist},
			{Kind: api.Drop, From: p, To: p, At: 10 + hoist, End: 10 + 2*hoist},
			run(p, api.West, 3, 10+2*hoist),
		}, api.OK)
	}
}

// P13.1: others' slots on the way: the robot waits, goes on when it may, and lifts only where it may then stand for ever.
func TestRoundAmongOthers(t *testing.T) {
	ask := func(holds []hold, want ...api.Move) {
		t.Helper()
		q := row(t, 0, lifts(3, 0))
		q.r = tableOf(t, 5, holds...)
		answers(t, q, want, api.OK)
	}
	// Out it waits for its way, and so all is later.
	ask([]hold{{1, 2, 0, 10}}, run(flat(0, 0), api.East, 3, 10), lift(flat(3, 0), 13), run(flat(3, 0), api.West, 3, 17))
	// Home it waits too, as near by as it may.
	ask([]hold{{1, 2, 3, 30}}, run(flat(0, 0), api.East, 3, 0), lift(flat(3, 0), 3), run(flat(3, 0), api.West, 3, 30))
	ask([]hold{{1, 1, 3, 30}}, run(flat(0, 0), api.East, 3, 0), lift(flat(3, 0), 3), run(flat(3, 0), api.West, 1, 7), run(flat(2, 0), api.West, 2, 30))
	// Where others come by later it does not stop ahead of them, however much time there is.
	ask([]hold{{1, 4, 50, 60}}, run(flat(0, 0), api.East, 2, 0), run(flat(2, 0), api.East, 1, 60), lift(flat(3, 0), 61), run(flat(3, 0), api.West, 3, 65))
	// Its own slots are no hindrance.
	ask([]hold{{2, 0, 0, 7}, {2, 3, 2, end}}, run(flat(0, 0), api.East, 3, 0), lift(flat(3, 0), 3), run(flat(3, 0), api.West, 3, 7))
	// Slots on cells that the round leaves alone, or that it does not come to by then, turn nothing.
	q := row(t, 0, lifts(1, 0))
	q.r = tableOf(t, 5, hold{1, 3, 0, end}, hold{1, 4, 0, end})
	answers(t, q, []api.Move{run(flat(0, 0), api.East, 1, 0), lift(flat(1, 0), 1), run(flat(1, 0), api.West, 1, 5)}, api.OK)
}

// P13.1: ErrConf, for each thing by which a config may not be, ahead of all that else is wrong.
func TestRoundOfNoConf(t *testing.T) {
	for i, turn := range []func(c *api.Conf){
		func(c *api.Conf) { *c = api.Conf{} },
		func(c *api.Conf) { c.W = 0 },
		func(c *api.Conf) { c.W = 17 },
		func(c *api.Conf) { c.W = math.MinInt },
		func(c *api.Conf) { c.H = math.MaxInt },
		func(c *api.Conf) { c.Height = 0 },
		func(c *api.Conf) { c.Unit = 0 },
		func(c *api.Conf) { c.Accel = 1001 },
		func(c *api.Conf) { c.Speed = -1 },
		func(c *api.Conf) { c.Turn = 0 },
		func(c *api.Conf) { c.Hoist = 0 },
		func(c *api.Conf) { c.Hoist = 1001 },
		func(c *api.Conf) { c.Resend = 0 },
		func(c *api.Conf) { c.Queue = 0 },
		func(c *api.Conf) { c.Budget = 0 },
		func(c *api.Conf) { c.Budget = api.MaxBudget + 1 },
		func(c *api.Conf) { c.Blocked = []api.Cell{cell(4, 0), cell(4, 0)} },
		func(c *api.Conf) { c.Ports = []api.Cell{cell(4, 0)} },
		func(c *api.Conf) { c.Robots = []api.Pose{flat(4, 0)} },
		func(c *api.Conf) { c.Stacks = []api.Stack{{At: cell(4, 0), Bins: []int{1}}} },
	} {
		q := row(t, 7, lifts(3, 0))
		turn(&q.c)
		answers(t, q, nil, api.ErrConf)
		q.stops = nil
		answers(t, q, nil, api.ErrConf)
		q.r, q.robot, q.from, q.at, q.home = nil, -1, flat(9, 9), -1, flat(9, 9)
		q.stops = []plan.Stop{{Kind: api.Run}}
		answers(t, q, nil, api.ErrConf)
		if t.Failed() {
			t.Fatalf("case %d", i)
		}
	}
}

// P13.1: ErrArg for a Kind that is neither Lift nor Drop, at the first, a middle and the last stop, ahead of what any way tells.
func TestRoundOfOddKinds(t *testing.T) {
	for _, kind := range append(ends(), -1, 0, api.Run, api.Turn, 5, 6, 7) {
		for place := range 3 {
			q := row(t, 7, lifts(3, 0), drops(1, 0), lifts(0, 0))
			q.stops[place].Kind = kind
			answers(t, q, nil, api.ErrArg)
			// No way out; the start is another's; the budget is too small.
			q.from, q.c.Blocked = flat(3, 0), []api.Cell{cell(2, 0)}
			answers(t, q, nil, api.ErrArg)
			q = row(t, 7, lifts(3, 0), drops(1, 0), lifts(0, 0))
			q.stops[place].Kind = kind
			q.r = tableOf(t, 5, hold{1, 0, 0, end})
			answers(t, q, nil, api.ErrArg)
			q.r, q.c.Budget = tableOf(t, 5), 1
			answers(t, q, nil, api.ErrArg)
		}
		answers(t, row(t, 7, plan.Stop{Kind: kind}), nil, api.ErrArg)
	}
	// More than MaxMoves, and the last Kind is odd.
	q := row(t, 0, slices.Repeat([]plan.Stop{lifts(0, 0)}, api.MaxMoves+9)...)
	q.stops[len(q.stops)-1].Kind = api.Turn
	answers(t, q, nil, api.ErrArg)
}

// P13.1: what Find refuses of the round's own things is the first way's ErrArg, whether it leads to a stop or home.
func TestRoundOfWrong(t *testing.T) {
	for i, turn := range []func(q *question){
		func(q *question) { q.r = nil },
		func(q *question) { q.r = tableOf(t, 4) },
		func(q *question) { q.r = tableOf(t, 6) },
		func(q *question) { q.robot = -1 },
		func(q *question) { q.robot = math.MinInt },
		func(q *question) { q.at = -1 },
		func(q *question) { q.at = math.MinInt },
		func(q *question) { q.at = end },
		func(q *question) { q.at = math.MaxInt },
		func(q *question) { q.at = math.MaxInt - 3 },
		func(q *question) { q.from = flat(4, 0) },
		func(q *question) { q.from = down(0, 0) },
		func(q *question) { q.from = flat(math.MaxInt, math.MinInt) },
	} {
		for _, stops := range [][]plan.Stop{nil, {lifts(0, 0)}, {lifts(3, 0), drops(1, 0)}} {
			q := row(t, 7, stops...)
			turn(&q)
			answers(t, q, nil, api.ErrArg)
			if t.Failed() {
				t.Fatalf("case %d", i)
			}
		}
	}
}

// P13.1: ErrArg of a way to a stop whose cell is not open, whichever it is, and of the way to a home that does not fit.
func TestRoundToNowhere(t *testing.T) {
	for _, at := range []api.Cell{cell(5, 0), cell(-1, 0), cell(0, 1), cell(0, -1), cell(4, 0), cell(math.MaxInt, math.MinInt)} {
		for place := range 3 {
			q := row(t, 7, lifts(2, 0), drops(1, 0), lifts(0, 0))
			q.c.Blocked = []api.Cell{cell(4, 0)}
			q.stops[place].At = at
			answers(t, q, nil, api.ErrArg)
		}
	}
	for _, home := range []api.Pose{flat(4, 0), flat(-1, 0), down(0, 0), flat(0, 1), flat(math.MaxInt, 0)} {
		q := row(t, 7)
		q.home = home
		answers(t, q, nil, api.ErrArg)
		q.stops = []plan.Stop{lifts(2, 0), drops(1, 0)}
		answers(t, q, nil, api.ErrArg)
	}
}

// P13.1: ErrTaken, where the start is another's at at; never of a later way, that begins where the robot may stand.
func TestRoundOfTaken(t *testing.T) {
	for at := range 12 {
		q := row(t, at, lifts(3, 0))
		q.r = tableOf(t, 5, hold{1, 1, 5, 9})
		if _, e := q.round(); (e == api.ErrTaken) != (at >= 5 && at < 9) {
			t.Errorf("at %d: error %d", at, e)
		}
		q.stops = nil
		if _, e := q.round(); (e == api.ErrTaken) != (at >= 5 && at < 9) {
			t.Errorf("at %d, without stops: error %d", at, e)
		}
	}
}

// P13.1: ErrRoute of the first way, a later one and the way home.
func TestRoundWithoutAWay(t *testing.T) {
	// No pose that fits has 4, 0 as its first cell.
	for place := range 3 {
		q := row(t, 7, lifts(2, 0), drops(1, 0), lifts(0, 0))
		q.stops[place].At = cell(4, 0)
		answers(t, q, nil, api.ErrRoute)
	}
	q := row(t, 7)
	q.c.Blocked, q.home = []api.Cell{cell(2, 0)}, flat(3, 0)
	answers(t, q, nil, api.ErrRoute)
	q.stops = []plan.Stop{lifts(0, 0), drops(0, 0)}
	answers(t, q, nil, api.ErrRoute)
	// Home is another's for ever by the time at which it is done.
	q = row(t, 7, lifts(3, 0))
	q.r = tableOf(t, 5, hold{1, 0, 16, end})
	answers(t, q, nil, api.ErrRoute)
}

// P13.1: ErrBudget of the first way, a later one and the way home; each way has the whole budget.
func TestRoundBudget(t *testing.T) {
	ask := func(budget int, home api.Pose, e api.Errno, stops ...plan.Stop) {
		t.Helper()
		q := row(t, 7, stops...)
		q.c.Budget, q.home = budget, home
		if l, ge := q.round(); ge != e || e != api.OK && len(l) > 0 {
			t.Errorf("error %d, want %d", ge, e)
		}
	}
	// With a budget of 1 a way has no moves, or an error.
	ask(1, flat(0, 0), api.OK, lifts(0, 0), drops(0, 0), lifts(0, 0))
	ask(1, flat(0, 0), api.ErrBudget, lifts(1, 0), drops(0, 0), lifts(0, 0))
	ask(1, flat(0, 0), api.ErrBudget, lifts(0, 0), drops(1, 0), lifts(0, 0))
	ask(1, flat(0, 0), api.ErrBudget, lifts(0, 0), drops(0, 0), lifts(1, 0))
	ask(1, flat(1, 0), api.ErrBudget, lifts(0, 0), drops(0, 0), lifts(0, 0))
	// With 2 to the next pose, as often as one likes.
	ask(2, flat(1, 0), api.OK, lifts(1, 0), drops(0, 0), lifts(1, 0), drops(0, 0), lifts(1, 0), drops(0, 0))
	ask(2, flat(0, 0), api.ErrBudget, lifts(1, 0), drops(0, 0), lifts(2, 0))
}

// P13.1: of several ways' errors it is that of the first one, whatever they are.
func TestRoundFirstError(t *testing.T) {
	// A stop each whose way has the error, from wherever the robot has come by then, in a row of seven cells with the last one blocked, with a budget of 3.
	bad := []struct {
		stop plan.Stop
		e    api.Errno
	}{{lifts(6, 0), api.ErrArg}, {drops(3, 0), api.ErrBudget}, {lifts(0, 7), api.ErrArg}, {drops(5, 0), api.ErrBudget}}
	fine := []plan.Stop{lifts(0, 0), drops(1, 0)}
	for _, a := range bad {
		for _, b := range bad {
			for ahead := range 3 {
				q := question{c: plainConf(7, 1, cell(6, 0)), r: tableOf(t, 7), from: flat(0, 0), home: flat(5, 0)}
				q.c.Budget = 3
				q.stops = append(slices.Clone(fine[:ahead]), a.stop, b.stop)
				answers(t, q, nil, a.e)
			}
		}
	}
	// ErrRoute ahead of ErrArg, and behind it.
	q := row(t, 0, lifts(4, 0), drops(9, 9))
	answers(t, q, nil, api.ErrRoute)
	q.home = flat(9, 9)
	answers(t, q, nil, api.ErrRoute)
	answers(t, row(t, 0, lifts(9, 9), drops(4, 0)), nil, api.ErrArg)
	// ErrTaken is the first way's, and so ahead of a later one's ErrArg; but a first way's ErrArg is ahead of it.
	q = row(t, 0, lifts(0, 0), drops(9, 9))
	q.r = tableOf(t, 5, hold{1, 0, 0, 9})
	answers(t, q, nil, api.ErrTaken)
	q.stops = q.stops[1:]
	answers(t, q, nil, api.ErrArg)
	// A home that does not fit is of the last way alone.
	q = row(t, 0, lifts(3, 0))
	q.home, q.c.Budget = flat(9, 9), 1
	answers(t, q, nil, api.ErrBudget)
}

// P13.1: ErrFull just above MaxMoves moves, none at MaxMoves, those of all ways counted.
func TestRoundFull(t *testing.T) {
	hoists := func(x, many int) []plan.Stop { return slices.Repeat([]plan.Stop{lifts(x, 0)}, many) }
	count := func(q question, want int) {
		t.Helper()
		if l, e := q.round(); e != api.OK || len(l) != want || !plan.Right(q.c, kinOf(t, q.c), q.from, l) {
			t.Errorf("%d moves, error %d", len(l), e)
		}
	}
	count(row(t, 0, hoists(0, api.MaxMoves-1)...), api.MaxMoves-1)
	count(row(t, 0, hoists(0, api.MaxMoves)...), api.MaxMoves)
	answers(t, row(t, 0, hoists(0, api.MaxMoves+1)...), nil, api.ErrFull)
	// The runs out and home count.
	count(row(t, 0, hoists(3, api.MaxMoves-2)...), api.MaxMoves)
	answers(t, row(t, 0, hoists(3, api.MaxMoves-1)...), nil, api.ErrFull)
	q := row(t, 0, hoists(0, api.MaxMoves)...)
	q.home = flat(1, 0)
	answers(t, q, nil, api.ErrFull)
	q.stops = q.stops[1:]
	count(q, api.MaxMoves)
	// An error of a way counts for more, though it comes when there are more moves already.
	q = row(t, 0, append(hoists(0, api.MaxMoves+5), drops(4, 0))...)
	answers(t, q, nil, api.ErrRoute)
	q = row(t, 0, append(hoists(0, api.MaxMoves+5), drops(4, 4))...)
	answers(t, q, nil, api.ErrArg)
	q = row(t, 0, hoists(0, api.MaxMoves+5)...)
	q.home = flat(4, 0)
	answers(t, q, nil, api.ErrArg)
	q.home, q.c.Budget = flat(1, 0), 1
	answers(t, q, nil, api.ErrBudget)
}

// P13.1: near the end of time: a lift that ends at Forever - 1 is told, one that ends at Forever leaves no tick for the next way.
func TestRoundAtTheEnd(t *testing.T) {
	answers(t, row(t, end-5, lifts(0, 0)), []api.Move{lift(flat(0, 0), end-5)}, api.OK)
	answers(t, row(t, end-4, lifts(0, 0)), nil, api.ErrArg)
	answers(t, row(t, end-1, lifts(0, 0)), nil, api.ErrArg)
	answers(t, row(t, end-9, lifts(0, 0), drops(0, 0)), []api.Move{lift(flat(0, 0), end-9), drop(flat(0, 0), end-5)}, api.OK)
	answers(t, row(t, end-8, lifts(0, 0), drops(0, 0)), nil, api.ErrArg)
	answers(t, row(t, end-7, lifts(1, 0)), []api.Move{run(flat(0, 0), api.East, 1, end-7), lift(flat(1, 0), end-6), run(flat(1, 0), api.West, 1, end-2)}, api.OK)
	// Now the run home would end at Forever: there is no way.
	answers(t, row(t, end-6, lifts(1, 0)), nil, api.ErrRoute)
}

// P13.1: what the chapter does not refuse is taken: a robot of any number, a stop at a port or a home, or where nothing is stacked.
func TestRoundOfOdd(t *testing.T) {
	for _, robot := range []int{0, 1, 7, 8, 1 << 40, math.MaxInt} {
		q := row(t, 0, drops(2, 0))
		q.robot = robot
		q.c.Ports, q.c.Robots = []api.Cell{cell(2, 0)}, []api.Pose{flat(0, 0)}
		answers(t, q, []api.Move{run(flat(0, 0), api.East, 2, 0), drop(flat(2, 0), 2), run(flat(2, 0), api.West, 2, 6)}, api.OK)
	}
	// From and home need be no robot's home.
	q := row(t, 0, lifts(0, 0))
	q.c.Robots = []api.Pose{flat(0, 0)}
	q.from, q.home = flat(1, 0), flat(3, 0)
	answers(t, q, []api.Move{run(flat(1, 0), api.West, 1, 0), lift(flat(0, 0), 1), run(flat(0, 0), api.East, 3, 5)}, api.OK)
}

// P13.1: any round, held against the chapter's words, in hives with others' slots; each error of a way at the first way, a later one and the way home.
func TestRoundIsPlain(t *testing.T) {
	var luck chance = 3
	count := map[[2]int]int{}
	for range 6000 {
		q := drawQuestion(&luck, 5)
		switch luck.below(12) {
		case 0, 1, 2, 3:
			q.c.Budget = 1 + luck.below(12)
		case 4:
			if n := len(q.stops); n > 0 {
				q.stops[luck.below(n)].At = cell(luck.below(7)-1, luck.below(7)-1)
			}
		case 5:
			if n := len(q.stops); n > 0 {
				q.stops[luck.below(n)].Kind = luck.below(7) - 1
			}
		case 6:
			q.home.At = cell(luck.below(7)-1, luck.below(7)-1)
		case 7:
			q.at = end - 1 - luck.below(60)
		}
		want, e, way := plainRound(q)
		answers(t, q, want, e)
		where := way
		if way > 0 && way < len(q.stops) {
			where = 1
		} else if way > 0 {
			where = 2
		}
		count[[2]int{int(e), where}]++
		if e == api.OK && len(q.stops) > 2 {
			count[[2]int{-1, 0}]++
		}
	}
	for _, c := range [][2]int{
		{-1, 0}, {int(api.OK), -1}, {int(api.ErrArg), -1}, {int(api.ErrTaken), 0},
		{int(api.ErrArg), 0}, {int(api.ErrArg), 1}, {int(api.ErrArg), 2},
		{int(api.ErrRoute), 0}, {int(api.ErrRoute), 1}, {int(api.ErrRoute), 2},
		{int(api.ErrBudget), 0}, {int(api.ErrBudget), 1}, {int(api.ErrBudget), 2},
	} {
		if count[c] < 15 {
			t.Errorf("error %d in way %d: %d times", c[0], c[1], count[c])
		}
	}
}
