package hive_test

import (
	"slices"
	"testing"

	"skep/api"
	"skep/disk"
	"skep/grid"
	"skep/hive"
	"skep/kinem"
	"skep/plan"
	"skep/route"
	"skep/state"
)

// roundOf is the round for a robot in a state, at a tick; it fails, if there is none.
func roundOf(t *testing.T, c api.Conf, s api.State, robot, now int, stops ...plan.Stop) []api.Move {
	t.Helper()
	r, e := state.Table(c, s)
	if e != api.OK {
		t.Fatal(e)
	}
	moves, e := plan.Round(c, r, robot, s.Robots[robot].At, now, stops, c.Robots[robot])
	if e != api.OK || len(moves) == 0 {
		t.Fatalf("Round: error %d, %+v", e, moves)
	}
	return moves
}

func lifts(c api.Cell) plan.Stop { return plan.Stop{At: c, Kind: api.Lift} }
func drops(c api.Cell) plan.Stop { return plan.Stop{At: c, Kind: api.Drop} }

// early is a state as one that no event has led to, so that a hive may begin in it.
func early(s api.State) api.State {
	s.Seq = 0
	return s
}

// ticks fails unless just these events happen in a tick, so that the state is that behind them, and unless it tells the go-aheads of those among them. It answers these.
func ticks(t *testing.T, c api.Conf, h *hive.Hive, d *disk.Disk, l ...api.Event) []api.Tele {
	t.Helper()
	s := h.State()
	_, had := events(t, c, d)
	var want []api.Tele
	for _, e := range l {
		s = behindAll(t, c, s, e)
		if r := s.Robots; e.Kind == api.EvGo {
			want = append(want, teGo(e.A, s.Epoch, r[e.A].Num, r[e.A].Moves[0]))
		}
	}
	does(t, h, opTick(), want...)
	same(t, h.State(), s)
	_, has := events(t, c, d)
	same(t, has[len(had):], l)
	if d.Pending(0)+d.Pending(1) > 0 && len(l) > 0 {
		t.Fatalf("%d, %d pending", d.Pending(0), d.Pending(1))
	}
	return want
}

// P21.3: all orders begin that can: one a port, the lowest port first; then all are planned, then all go, robot by robot, in one tick.
func TestWorkBegins(t *testing.T) {
	c, d := yard(), disk.New()
	h := made(t, c, d, 9)
	all(t, h, opOrder(4, 1), opOrder(9, 0), opOrder(5, 0))
	s := behindAll(t, c, h.State(), evBegin(2), evBegin(1))
	// Bin 3 lies above bin 4, so that the jobs are: fetch 9, away 3, fetch 4.
	if len(s.Jobs) != 3 || s.Jobs[0].Bin != 9 || s.Jobs[1].Bin != 3 || s.Jobs[2].Bin != 4 {
		t.Fatalf("%+v", s.Jobs)
	}
	zero := roundOf(t, c, s, 0, 10, lifts(at(1, 0)), drops(at(0, 0)))
	s = behindAll(t, c, s, evPlan(0, 1, zero))
	one := roundOf(t, c, s, 1, 10, lifts(at(3, 1)), drops(s.Jobs[1].To))
	ticks(t, c, h, d, evBegin(2), evBegin(1), evPlan(0, 1, zero), evPlan(1, 2, one), evGo(0), evGo(1))
	// Nothing more can be done, till somebody tells that it is done.
	ticks(t, c, h, d)
	ticks(t, c, h, d)
}

// P21.3: what stands in the way of beginning: a bin at the port, an order that is active there, a cell at which somebody works.
func TestWorkBeginsNotYet(t *testing.T) {
	c := yard()
	c.Robots = nil
	d := disk.New()
	h := made(t, c, d, 0)
	all(t, h, opOrder(9, 0), opOrder(5, 0), opOrder(8, 1), opOrder(3, 1))
	ticks(t, c, h, d, evBegin(1))
	ticks(t, c, h, d)
	h, d = within(t, c, turned(firstOf(t, c), func(s *api.State) { s.Stacks[0].Bins, s.Ports[0].Bin = []int{7, 8}, 9 }), 0)
	all(t, h, opOrder(8, 0), opOrder(5, 1))
	ticks(t, c, h, d, evBegin(2))
	all(t, h, opDrain(0))
	ticks(t, c, h, d)
}

// P21.3: each robot takes the first job that is ready and that it can do; the others are passed over.
func TestWorkTakesWhatCanBeDone(t *testing.T) {
	c := halves()
	// Job 1 is in the eastern half, job 2 in the western one.
	s := early(behindAll(t, c, firstOf(t, c), evOrder(3, 1), evBegin(1), evOrder(1, 0), evBegin(2)))
	h, d := within(t, c, s, 0)
	west := roundOf(t, c, s, 0, 1, lifts(at(0, 1)), drops(at(0, 0)))
	east := roundOf(t, c, s, 1, 1, lifts(at(3, 1)), drops(at(4, 0)))
	ticks(t, c, h, d, evPlan(0, 2, west), evPlan(1, 1, east), evGo(0), evGo(1))
	// Only one in the eastern half: robot 0 stays at home.
	s = early(behindAll(t, c, firstOf(t, c), evOrder(3, 1), evBegin(1)))
	h, d = within(t, c, s, 5)
	east = roundOf(t, c, s, 1, 6, lifts(at(3, 1)), drops(at(4, 0)))
	ticks(t, c, h, d, evPlan(1, 1, east), evGo(1))
	// The same, but that robot 0 is not at home: it goes there.
	s = turned(s, func(s *api.State) { s.Robots[0].At = flat(0, 1) })
	h, d = within(t, c, s, 5)
	home := roundOf(t, c, s, 0, 6)
	ticks(t, c, h, d, evPlan(0, 0, home), evPlan(1, 1, east), evGo(0), evGo(1))
	// A job across both halves can be done by nobody.
	s = early(behindAll(t, c, firstOf(t, c), evOrder(1, 1), evBegin(1)))
	h, d = within(t, c, s, 5)
	ticks(t, c, h, d)
	ticks(t, c, h, d)
}

// P21.3: a job that is not ready, since one ahead of it has a cell in common with it, is nobody's yet.
func TestWorkTakesWhatIsReady(t *testing.T) {
	c, d := yard(), disk.New()
	h := made(t, c, d, 0)
	all(t, h, opOrder(8, 0))
	s := behindAll(t, c, h.State(), evBegin(1))
	away := roundOf(t, c, s, 0, 1, lifts(at(1, 0)), drops(s.Jobs[0].To))
	ticks(t, c, h, d, evBegin(1), evPlan(0, 1, away), evGo(0))
	// Once the bin above is put elsewhere robot 1 takes the other one, though robot 0 is on its way home.
	for h.State().Robots[0].Job != 0 {
		all(t, h, opTick())
		if r := h.State().Robots[0]; r.Out {
			hears(t, h, teAck(0, 0, r.Num))
		}
	}
	s = h.State()
	fetch := roundOf(t, c, s, 1, h.Now()+1, lifts(at(1, 0)), drops(at(0, 0)))
	l, _ := h.Do(opTick())
	if s := h.State(); s.Robots[1].Job != 2 || s.Jobs[0].Robot != 1 || !slices.Equal(s.Robots[1].Moves, fetch) || len(l) == 0 {
		t.Fatalf("%+v, %+v", l, s)
	}
}

// resumed is a state behind a stop, as all robots stand where they are known to be.
func resumed(t *testing.T, c api.Conf, s api.State) api.State {
	t.Helper()
	s = behindAll(t, c, s, evStop())
	for i, r := range s.Robots {
		s = behindAll(t, c, s, evHalt(i, r.Load, r.At))
	}
	return behindAll(t, c, s, evResume())
}

// P21.3: who has a job keeps it: with no bin yet it lifts and drops, with a bin it drops; and Num begins anew in the new epoch.
func TestWorkGoesOnWithAJob(t *testing.T) {
	c := yard()
	s := behindAll(t, c, firstOf(t, c), evOrder(5, 1), evBegin(1))
	moves := roundOf(t, c, s, 0, 0, lifts(at(2, 1)), drops(at(4, 0)))
	s = behindAll(t, c, s, evPlan(0, 1, moves))
	for n, m := range moves {
		x := early(resumed(t, c, s))
		if x.Robots[0].Job == 0 {
			break
		}
		h, d := within(t, c, x, 3)
		left := []plan.Stop{lifts(at(2, 1)), drops(at(4, 0))}
		if x.Robots[0].Load != 0 {
			left = left[1:]
		}
		l := ticks(t, c, h, d, evPlan(0, 0, roundOf(t, c, x, 0, 4, left...)), evGo(0))
		if l[0].Epoch != 1 || l[0].Num != 1 {
			t.Fatalf("%+v", l)
		}
		s = behindAll(t, c, s, evGo(0), evDone(0))
		if n == len(moves)-1 || m.Kind == api.Drop && s.Robots[0].Job != 0 {
			t.Fatalf("%+v", s)
		}
	}
	// It has no job any more, and is not home: it goes there.
	if s.Robots[0].At == c.Robots[0] {
		t.Fatalf("%+v", s.Robots[0])
	}
	x := early(resumed(t, c, s))
	h, d := within(t, c, x, 3)
	ticks(t, c, h, d, evPlan(0, 0, roundOf(t, c, x, 0, 4)), evGo(0))
}

// P21.3: who has a job that can't be done now does nothing: no other job, and it does not go home.
func TestWorkWaitsWithAJob(t *testing.T) {
	c := halves()
	s := early(behindAll(t, c, firstOf(t, c), evOrder(3, 1), evBegin(1), evOrder(1, 0), evBegin(2)))
	s = turned(s, func(s *api.State) {
		s.Robots[0].At, s.Robots[0].Job, s.Jobs[0].Robot = flat(0, 1), 1, 0
	})
	h, d := within(t, c, s, 0)
	ticks(t, c, h, d)
	ticks(t, c, h, d)
	// So with its bin.
	s = turned(s, func(s *api.State) { s.Robots[0].Load, s.Stacks[4].Bins = 3, nil })
	h, d = within(t, c, s, 0)
	ticks(t, c, h, d)
	// Nobody has a way home from the other half.
	s = turned(firstOf(t, c), func(s *api.State) { s.Robots[0].At, s.Robots[1].At = flat(3, 1), flat(0, 1) })
	h, d = within(t, c, s, 0)
	ticks(t, c, h, d)
	// A budget that is spent is an error as others are.
	c = yard()
	c.Budget = 1
	h, d = within(t, c, early(behindAll(t, c, firstOf(t, c), evOrder(9, 0), evBegin(1))), 0)
	ticks(t, c, h, d)
}

// P21.3: with moves, or at home without a job for it, a robot is not planned.
func TestWorkPlansWhoHasNothing(t *testing.T) {
	c := yard()
	h, d := within(t, c, firstOf(t, c), 0)
	ticks(t, c, h, d)
	s := behindAll(t, c, firstOf(t, c), evOrder(9, 0), evBegin(1))
	moves := roundOf(t, c, s, 1, 500, lifts(at(1, 0)), drops(at(0, 0)))
	s = behindAll(t, c, s, evPlan(1, 1, moves), evOrder(5, 1), evBegin(2))
	h, d = within(t, c, early(s), 0)
	s = h.State()
	ticks(t, c, h, d, evPlan(0, 2, roundOf(t, c, s, 0, 1, lifts(at(2, 1)), drops(at(4, 0)))), evGo(0))
}

// corridor is a config of one way only, in which robots pass one another at the ends:
//
//	h h s s s s	robot 0 at 0, 0, robot 1 at 4, 2
//	s s s s s s
//	s s s s h h
func corridor() api.Conf {
	c := bare(6, 3)
	c.Robots = []api.Pose{flat(0, 0), flat(4, 2)}
	return c
}

// run is a run at a tick, as long as it lasts.
func run(t *testing.T, c api.Conf, from api.Pose, dir, n, tick int) api.Move {
	t.Helper()
	g, _ := grid.New(c)
	k, _ := kinem.New(c.Unit, c.Accel, c.Speed)
	to, ok := g.Shift(from, dir, n)
	m := api.Move{Kind: api.Run, Dir: dir, N: n, From: from, To: to, At: tick}
	m.End = tick + route.Lasts(c, k, m)
	if !ok || !g.Legal(m) {
		t.Fatalf("%+v", m)
	}
	return m
}

// P21.3: a go-ahead is given from the first move's At on, not ahead of it; one at a time; the next once it is done.
func TestWorkGoesInTime(t *testing.T) {
	c := corridor()
	there := run(t, c, flat(0, 0), api.East, 2, 7)
	here := run(t, c, flat(2, 0), api.West, 2, 40)
	h, d := within(t, c, turned(firstOf(t, c), func(s *api.State) { s.Robots[0].Moves = []api.Move{there, here} }), 2)
	for range 4 {
		ticks(t, c, h, d)
	}
	if l := ticks(t, c, h, d, evGo(0)); h.Now() != 7 || l[0] != teGo(0, 0, 1, there) {
		t.Fatalf("%+v at %d", l, h.Now())
	}
	for range 10 {
		ticks(t, c, h, d)
	}
	hears(t, h, teAck(0, 0, 1))
	for h.Now() < 39 {
		ticks(t, c, h, d)
	}
	if l := ticks(t, c, h, d, evGo(0)); l[0] != teGo(0, 0, 2, here) {
		t.Fatalf("%+v", l)
	}
	// Late is no reason not to go.
	h, d = within(t, c, turned(firstOf(t, c), func(s *api.State) { s.Robots[0].Moves = []api.Move{there, here} }), 900)
	ticks(t, c, h, d, evGo(0))
	hears(t, h, teAck(0, 0, 1))
	ticks(t, c, h, d, evGo(0))
	hears(t, h, teAck(0, 0, 2))
	ticks(t, c, h, d)
}

// P21.3: who is behind another one on a cell waits till that one has told that it is through, whatever the time is.
func TestWorkGoesByTurns(t *testing.T) {
	c := corridor()
	// Robot 1 crosses robot 0's way ahead of it.
	out, back := run(t, c, flat(4, 2), api.North, 2, 3), run(t, c, flat(4, 0), api.South, 2, 30)
	east := run(t, c, flat(0, 0), api.East, 3, 60)
	s := turned(firstOf(t, c), func(s *api.State) { s.Robots[0].Moves, s.Robots[1].Moves = []api.Move{east}, []api.Move{out, back} })
	h, d := within(t, c, s, 0)
	for range 2 {
		ticks(t, c, h, d)
	}
	ticks(t, c, h, d, evGo(1))
	hears(t, h, teAck(1, 0, 1))
	for h.Now() < 29 {
		ticks(t, c, h, d)
	}
	ticks(t, c, h, d, evGo(1))
	// It is late: by time robot 0 would have gone long ago.
	for h.Now() < 99 {
		if h.Now()%20 == 9 {
			does(t, h, opTick(), teGo(1, 0, 2, back))
			continue
		}
		ticks(t, c, h, d)
	}
	hears(t, h, teAck(1, 0, 2))
	ticks(t, c, h, d, evGo(0))
}

// P21.3: nothing is done while held.
func TestWorkIsHeld(t *testing.T) {
	c, d := yard(), disk.New()
	h := made(t, c, d, 0)
	all(t, h, opOrder(9, 0), opOrder(5, 1), opStop())
	for range 5 {
		ticks(t, c, h, d)
	}
	hears(t, h, teHalt(0, 1, c.Robots[0], 0), teHalt(1, 1, c.Robots[1], 0))
	for range 50 {
		ticks(t, c, h, d)
	}
	all(t, h, opResume())
	if l, _ := h.Do(opTick()); len(l) != 2 || l[0].Epoch != 1 || l[1].Epoch != 1 {
		t.Fatalf("%+v", l)
	}
}

// P21.3: a way that there is, but that Apply does not take: a robot that is out would not have its turn. Nothing happens, and no other job is looked for.
func TestWorkIsRefused(t *testing.T) {
	c := corridor()
	c.W = 8
	c.Ports = []api.Cell{at(7, 0), at(0, 1)}
	c.Stacks = []api.Stack{pile(2, 0, 1), pile(0, 2, 2)}
	// Robot 1 is out for a run that it should not have begun yet by time, across the way to the first job.
	late := run(t, c, flat(4, 2), api.North, 2, 5000)
	s := behindAll(t, c, firstOf(t, c), evOrder(1, 0), evBegin(1), evOrder(2, 1), evBegin(2))
	s = turned(early(s), func(s *api.State) { s.Robots[1].Moves, s.Robots[1].Out, s.Robots[1].Num = []api.Move{late}, true, 1 })
	moves := roundOf(t, c, s, 0, 1, lifts(at(2, 0)), drops(at(7, 0)))
	if _, e := state.Apply(c, s, evPlan(0, 1, moves)); e != api.ErrState {
		t.Fatal(e)
	}
	roundOf(t, c, s, 0, 1, lifts(at(0, 2)), drops(at(0, 1)))
	h, d := within(t, c, s, 0)
	ticks(t, c, h, d)
	// So where Num is at its end: no go-ahead.
	m := run(t, c, flat(0, 0), api.East, 1, 0)
	h, d = within(t, c, turned(firstOf(t, c), func(s *api.State) {
		s.Robots[0].Moves, s.Robots[0].Num = []api.Move{m, run(t, c, flat(1, 0), api.West, 1, 100)}, most-1
	}), 0)
	ticks(t, c, h, d, evGo(0))
	hears(t, h, teAck(0, 0, most))
	for range 150 {
		ticks(t, c, h, d)
	}
}
