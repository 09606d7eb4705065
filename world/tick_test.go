package world_test

import (
	"slices"
	"testing"

	"skep/api"
	"skep/world"
)

// over is yard's world at 8, robot 0 over the bins 7, 8 at 1, 0; its next go-ahead is 3.
func over(t *testing.T) *world.World {
	t.Helper()
	w := made(t, yard())
	does(t, w, 0, 1, runs(to(0, 1), api.North, 1, 4))
	does(t, w, 0, 2, runs(to(0, 0), api.East, 1, 4))
	return w
}

// loaded is the same at 14, robot 0 with the bin 8; its next go-ahead is 4.
func loaded(t *testing.T) *world.World {
	t.Helper()
	w := over(t)
	does(t, w, 0, 3, lifts(to(1, 0), 6), of(api.SeLift, 0, 8, to(1, 0)))
	return w
}

// atPort is the same at 18, robot 0 with the bin 8 over the port 0, 0; its next go-ahead is 5.
func atPort(t *testing.T) *world.World {
	t.Helper()
	w := loaded(t)
	does(t, w, 0, 4, runs(to(1, 0), api.West, 1, 4))
	return w
}

// P19.3: a tick in which nothing is under way turns nothing but the time.
func TestTickOfNothing(t *testing.T) {
	for _, c := range confs() {
		w, m := made(t, c), modelOf(c)
		for range 5 {
			both(t, w, m, call{kind: pass})
		}
		if w.Now() != 5 || len(w.Sights()) != 0 {
			t.Errorf("%d, %+v", w.Now(), w.Sights())
		}
	}
}

// P19.3: runs and turns: SeEnd alone, with the move as it was given, at the pose where it led.
func TestRunAndTurn(t *testing.T) {
	w := made(t, yard())
	p := down(5, 1)
	does(t, w, 2, 1, runs(p, api.West, 2, 7))
	does(t, w, 2, 2, turns(down(3, 1), 5))
	does(t, w, 2, 3, runs(to(3, 1), api.South, 2, 1))
	want := []api.Sight{
		{Kind: api.SeStart, Tick: 0, Robot: 2, Pose: p, Move: runs(p, api.West, 2, 7)},
		{Kind: api.SeEnd, Tick: 7, Robot: 2, Pose: down(3, 1), Move: runs(p, api.West, 2, 7)},
		{Kind: api.SeStart, Tick: 7, Robot: 2, Pose: down(3, 1), Move: turns(down(3, 1), 5)},
		{Kind: api.SeEnd, Tick: 12, Robot: 2, Pose: to(3, 1), Move: turns(down(3, 1), 5)},
		{Kind: api.SeStart, Tick: 12, Robot: 2, Pose: to(3, 1), Move: runs(to(3, 1), api.South, 2, 1)},
		{Kind: api.SeEnd, Tick: 13, Robot: 2, Pose: to(3, 3), Move: runs(to(3, 1), api.South, 2, 1)},
	}
	if got := w.Sights(); !slices.Equal(got, want) {
		t.Errorf("%+v, want %+v", got, want)
	}
}

// P19.3: a Lift that is done: by its last tick alone the bin is on the robot; SeLift with the bin, then SeEnd without it.
func TestLift(t *testing.T) {
	w := over(t)
	m := lifts(to(1, 0), 6)
	begins(t, w, 0, 3, m)
	for range 5 {
		rests(t, w, 1)
		carries(t, w, 0, 0, at(1, 0), 7, 8)
	}
	ticks(t, w, []api.Tele{acks(0, 0, 3)}, of(api.SeLift, 0, 8, to(1, 0)), end(0, m))
	carries(t, w, 0, 8, at(1, 0), 7)
	want := []api.Sight{{Kind: api.SeLift, Tick: 14, Bin: 8, Pose: to(1, 0)}, {Kind: api.SeEnd, Tick: 14, Pose: to(1, 0), Move: m}}
	if got := w.Sights()[5:]; !slices.Equal(got, want) {
		t.Errorf("%+v, want %+v", got, want)
	}
	rests(t, w, 7)
}

// P19.3: a Drop that is done, at a stack: by its last tick alone the bin stands there; SeDrop with the bin, then SeEnd without it; no SeDeliver.
func TestDrop(t *testing.T) {
	w := loaded(t)
	does(t, w, 0, 4, runs(to(1, 0), api.East, 1, 4))
	m := drops(to(2, 0), 6)
	begins(t, w, 0, 5, m)
	for range 5 {
		rests(t, w, 1)
		carries(t, w, 0, 8, at(2, 0), 9)
	}
	ticks(t, w, []api.Tele{acks(0, 0, 5)}, of(api.SeDrop, 0, 8, to(2, 0)), end(0, m))
	carries(t, w, 0, 0, at(2, 0), 9, 8)
}

// P19.3: a Drop at a port: SeDeliver behind SeDrop, of the same bin, then SeEnd.
func TestDeliver(t *testing.T) {
	w := atPort(t)
	m := drops(to(0, 0), 6)
	begins(t, w, 0, 5, m)
	for range 5 {
		rests(t, w, 1)
		carries(t, w, 0, 8, at(0, 0))
	}
	ticks(t, w, []api.Tele{acks(0, 0, 5)}, of(api.SeDrop, 0, 8, to(0, 0)), of(api.SeDeliver, 0, 8, to(0, 0)), end(0, m))
	carries(t, w, 0, 0, at(0, 0), 8)
}

// P19.3: each port is one, the first and the last too; a Lift at a port is just that.
func TestEachPort(t *testing.T) {
	c := bare(16, 3)
	c.Robots = []api.Pose{to(0, 0)}
	for i := range 8 {
		c.Ports = append(c.Ports, at(2*i, 1))
	}
	c.Stacks = []api.Stack{{At: at(1, 1), Bins: []int{6}}}
	w := made(t, c)
	does(t, w, 0, 1, runs(to(0, 0), api.South, 1, 1))
	does(t, w, 0, 2, runs(to(0, 1), api.East, 1, 1))
	does(t, w, 0, 3, lifts(to(1, 1), 1), of(api.SeLift, 0, 6, to(1, 1)))
	does(t, w, 0, 4, runs(to(1, 1), api.West, 1, 1))
	for i := range 8 {
		p := to(2*i, 1)
		does(t, w, 0, 5+3*i, drops(p, 2), of(api.SeDrop, 0, 6, p), of(api.SeDeliver, 0, 6, p))
		carries(t, w, 0, 0, p.At, 6)
		does(t, w, 0, 6+3*i, lifts(p, 2), of(api.SeLift, 0, 6, p))
		carries(t, w, 0, 6, p.At)
		if i < 7 {
			does(t, w, 0, 7+3*i, runs(p, api.East, 2, 1))
		}
	}
}

// P19.3: the bins are those at the robot's first cell, of a pose to the south too; at its second one they stay.
func TestFirstCell(t *testing.T) {
	w := over(t)
	does(t, w, 0, 3, lifts(to(1, 0), 6), of(api.SeLift, 0, 8, to(1, 0)))
	if !slices.Equal(w.At(at(2, 0)), []int{9}) {
		t.Error(w.At(at(2, 0)))
	}
	does(t, w, 0, 4, turns(to(1, 0), 5))
	does(t, w, 0, 5, drops(down(1, 0), 3), of(api.SeDrop, 0, 8, down(1, 0)))
	does(t, w, 0, 6, lifts(down(1, 0), 3), of(api.SeLift, 0, 8, down(1, 0)))
	does(t, w, 0, 7, runs(down(1, 0), api.East, 2, 9))
	// The bin 3 stands at its second cell.
	does(t, w, 0, 8, drops(down(3, 0), 3), of(api.SeDrop, 0, 8, down(3, 0)))
	if !slices.Equal(w.At(at(3, 0)), []int{8}) || !slices.Equal(w.At(at(3, 1)), []int{5, 3}) {
		t.Error(w.At(at(3, 0)), w.At(at(3, 1)))
	}
}

// bad fails unless a move that cannot be done is seen as SeBad and SeEnd, by its last tick, and turns nothing: the robot's load and the bins are what they were.
func bad(t *testing.T, w *world.World, i, num int, m api.Move) {
	t.Helper()
	_, load, _ := w.Robot(i)
	cells := around(yard())
	var was [][]int
	for _, c := range cells {
		was = append(was, w.At(c))
	}
	does(t, w, i, num, m, sight(api.SeBad, i, m.To))
	if _, got, _ := w.Robot(i); got != load {
		t.Errorf("behind %+v: it has %d, had %d", m, got, load)
	}
	for k, c := range cells {
		if !slices.Equal(w.At(c), was[k]) {
			t.Errorf("behind %+v: at %v are %v, were %v", m, c, w.At(c), was[k])
		}
	}
}

// P19.3, and the chapter's example: a Lift over no bin, at a home, at an empty stack cell, at an empty port.
func TestLiftOfNothing(t *testing.T) {
	w := made(t, yard())
	bad(t, w, 0, 1, lifts(to(0, 1), 6))
	does(t, w, 0, 2, runs(to(0, 1), api.North, 1, 4))
	bad(t, w, 0, 3, lifts(to(0, 0), 6))
	does(t, w, 0, 4, runs(to(0, 0), api.East, 3, 12))
	bad(t, w, 0, 5, lifts(to(3, 0), 1))
	does(t, w, 0, 6, turns(to(3, 0), 5))
	bad(t, w, 0, 7, lifts(down(3, 0), 1))
}

// P19.3: a Lift by a robot that has a bin: the bin below stays, and it has what it had.
func TestLiftOfTwo(t *testing.T) {
	w := loaded(t)
	bad(t, w, 0, 4, lifts(to(1, 0), 6))
	carries(t, w, 0, 8, at(1, 0), 7)
	does(t, w, 0, 5, drops(to(1, 0), 6), of(api.SeDrop, 0, 8, to(1, 0)))
}

// P19.3: a Drop without a load, at a stack, at a port (no SeDeliver), at a home.
func TestDropOfNothing(t *testing.T) {
	w := made(t, yard())
	bad(t, w, 0, 1, drops(to(0, 1), 6))
	does(t, w, 0, 2, runs(to(0, 1), api.North, 1, 4))
	bad(t, w, 0, 3, drops(to(0, 0), 6))
	does(t, w, 0, 4, runs(to(0, 0), api.East, 1, 4))
	bad(t, w, 0, 5, drops(to(1, 0), 6))
}

// P19.3: a Drop without room: at a port that has a bin (no SeDeliver), at a home, at a full stack.
func TestDropWithoutRoom(t *testing.T) {
	w := atPort(t)
	does(t, w, 0, 5, drops(to(0, 0), 6), of(api.SeDrop, 0, 8, to(0, 0)), of(api.SeDeliver, 0, 8, to(0, 0)))
	does(t, w, 0, 6, runs(to(0, 0), api.East, 2, 6))
	does(t, w, 0, 7, lifts(to(2, 0), 6), of(api.SeLift, 0, 9, to(2, 0)))
	does(t, w, 0, 8, runs(to(2, 0), api.West, 2, 6))
	bad(t, w, 0, 9, drops(to(0, 0), 6))
	does(t, w, 0, 10, runs(to(0, 0), api.South, 1, 4))
	bad(t, w, 0, 11, drops(to(0, 1), 6))
	does(t, w, 0, 12, runs(to(0, 1), api.East, 3, 12))
	bad(t, w, 0, 13, drops(to(3, 1), 6))
	carries(t, w, 0, 9, at(3, 1), 5, 3)
	does(t, w, 0, 14, runs(to(3, 1), api.East, 1, 4))
	does(t, w, 0, 15, drops(to(4, 1), 6), of(api.SeDrop, 0, 9, to(4, 1)))
}

// P19.3: a run that was cut: SeEnd with the cut move, where the robot is then, SeHalt behind it; it tells TeHalt.
func TestHaltedRun(t *testing.T) {
	w := made(t, yard())
	m := runs(to(1, 4), api.East, 3, 12)
	begins(t, w, 1, 1, m)
	rests(t, w, 1)
	hears(t, w, stops(1, 1), nil)
	cut := m
	cut.N, cut.To = 1, to(2, 4)
	// From 2 with the speed 2: 4, 6, 8, 10.
	rests(t, w, 3)
	ticks(t, w, []api.Tele{halts(1, 1, to(2, 4), 0)}, end(1, cut), sight(api.SeHalt, 1, to(2, 4)))
	if s := w.Sights(); len(s) != 3 || s[1] != (api.Sight{Kind: api.SeEnd, Tick: 5, Robot: 1, Pose: to(2, 4), Move: cut}) {
		t.Errorf("%+v", s)
	}
	rests(t, w, 5)
}

// P19.3: a run that is cut to no cells ends where it began.
func TestHaltedAtOnce(t *testing.T) {
	w := made(t, yard())
	m := runs(to(1, 4), api.East, 3, 12)
	begins(t, w, 1, 1, m)
	hears(t, w, stops(1, 1), nil)
	cut := m
	cut.N, cut.To = 0, to(1, 4)
	ticks(t, w, []api.Tele{halts(1, 1, to(1, 4), 0)}, end(1, cut), sight(api.SeHalt, 1, to(1, 4)))
}

// P19.3: a Lift and a Drop go on to their end when the robot is stopped, and are done; SeHalt stands behind SeEnd, and TeHalt has what it carries then.
func TestHaltedHoists(t *testing.T) {
	w := over(t)
	p := to(1, 0)
	begins(t, w, 0, 3, lifts(p, 6))
	rests(t, w, 2)
	hears(t, w, stops(0, 1), nil)
	rests(t, w, 3)
	ticks(t, w, []api.Tele{halts(0, 1, p, 8)}, of(api.SeLift, 0, 8, p), end(0, lifts(p, 6)), sight(api.SeHalt, 0, p))
	carries(t, w, 0, 8, at(1, 0), 7)

	hears(t, w, goes(0, 1, 1, drops(p, 2)), nil, start(0, drops(p, 2)))
	hears(t, w, stops(0, 2), nil)
	rests(t, w, 1)
	ticks(t, w, []api.Tele{halts(0, 2, p, 0)}, of(api.SeDrop, 0, 8, p), end(0, drops(p, 2)), sight(api.SeHalt, 0, p))
	carries(t, w, 0, 0, at(1, 0), 7, 8)

	hears(t, w, goes(0, 2, 1, drops(p, 2)), nil, start(0, drops(p, 2)))
	rests(t, w, 1)
	hears(t, w, stops(0, 3), nil)
	ticks(t, w, []api.Tele{halts(0, 3, p, 0)}, sight(api.SeBad, 0, p), end(0, drops(p, 2)), sight(api.SeHalt, 0, p))
	carries(t, w, 0, 0, at(1, 0), 7, 8)
}

// P19.3: of Halted at a port: SeDrop, SeDeliver, SeEnd, SeHalt.
func TestHaltedDelivery(t *testing.T) {
	w := atPort(t)
	p := to(0, 0)
	begins(t, w, 0, 5, drops(p, 3))
	rests(t, w, 2)
	hears(t, w, stops(0, 1), nil)
	ticks(t, w, []api.Tele{halts(0, 1, p, 0)}, of(api.SeDrop, 0, 8, p), of(api.SeDeliver, 0, 8, p), end(0, drops(p, 3)), sight(api.SeHalt, 0, p))
}

// P19.3: what ends in one tick is seen and told by robots, in whatever order it was heard; who ends nothing tells nothing.
func TestByRobots(t *testing.T) {
	w := made(t, yard())
	begins(t, w, 2, 1, lifts(down(5, 1), 3))
	rests(t, w, 1)
	begins(t, w, 1, 1, runs(to(1, 4), api.East, 1, 2))
	begins(t, w, 0, 1, runs(to(0, 1), api.North, 1, 2))
	rests(t, w, 1)
	ticks(t, w, []api.Tele{acks(0, 0, 1), acks(1, 0, 1), acks(2, 0, 1)},
		end(0, runs(to(0, 1), api.North, 1, 2)),
		end(1, runs(to(1, 4), api.East, 1, 2)),
		sight(api.SeBad, 2, down(5, 1)), end(2, lifts(down(5, 1), 3)))

	begins(t, w, 2, 2, runs(down(5, 1), api.South, 1, 2))
	begins(t, w, 0, 2, runs(to(0, 0), api.South, 1, 3))
	rests(t, w, 1)
	ticks(t, w, []api.Tele{acks(2, 0, 2)}, end(2, runs(down(5, 1), api.South, 1, 2)))
	ticks(t, w, []api.Tele{acks(0, 0, 2)}, end(0, runs(to(0, 0), api.South, 1, 3)))
}

// meeting is a world in which two robots have one first cell, with the bin 4, each to its own side; their next go-ahead is 2.
func meeting(t *testing.T) *world.World {
	t.Helper()
	c := bare(4, 3)
	c.Robots = []api.Pose{to(1, 0), down(0, 1)}
	c.Stacks = []api.Stack{{At: at(1, 1), Bins: []int{4}}}
	w := made(t, c)
	begins(t, w, 0, 1, runs(to(1, 0), api.South, 1, 4))
	begins(t, w, 1, 1, runs(down(0, 1), api.East, 1, 4))
	rests(t, w, 3)
	ticks(t, w, []api.Tele{acks(0, 0, 1), acks(1, 0, 1)}, end(0, runs(to(1, 0), api.South, 1, 4)), end(1, runs(down(0, 1), api.East, 1, 4)))
	return w
}

// P19.3: robot by robot: of two that lift one bin in one tick the first has it; what the first drops, the second one may lift in the same tick, but not the other way round.
func TestRobotByRobot(t *testing.T) {
	w := meeting(t)
	p, q := to(1, 1), down(1, 1)
	begins(t, w, 1, 2, lifts(q, 3))
	begins(t, w, 0, 2, lifts(p, 3))
	rests(t, w, 2)
	ticks(t, w, []api.Tele{acks(0, 0, 2), acks(1, 0, 2)},
		of(api.SeLift, 0, 4, p), end(0, lifts(p, 3)),
		sight(api.SeBad, 1, q), end(1, lifts(q, 3)))

	begins(t, w, 1, 3, lifts(q, 3))
	begins(t, w, 0, 3, drops(p, 3))
	rests(t, w, 2)
	ticks(t, w, []api.Tele{acks(0, 0, 3), acks(1, 0, 3)},
		of(api.SeDrop, 0, 4, p), end(0, drops(p, 3)),
		of(api.SeLift, 1, 4, q), end(1, lifts(q, 3)))
	carries(t, w, 1, 4, at(1, 1))

	begins(t, w, 1, 4, drops(q, 3))
	begins(t, w, 0, 4, lifts(p, 3))
	rests(t, w, 2)
	ticks(t, w, []api.Tele{acks(0, 0, 4), acks(1, 0, 4)},
		sight(api.SeBad, 0, p), end(0, lifts(p, 3)),
		of(api.SeDrop, 1, 4, q), end(1, drops(q, 3)))
	carries(t, w, 0, 0, at(1, 1), 4)
}

// P19.3: some are halted, some have done theirs, in one tick: each tells its own.
func TestHaltedAndDone(t *testing.T) {
	w := made(t, yard())
	begins(t, w, 0, 1, turns(to(0, 1), 3))
	begins(t, w, 1, 1, runs(to(1, 4), api.North, 1, 3))
	begins(t, w, 2, 1, drops(down(5, 1), 3))
	hears(t, w, stops(2, 1), nil)
	hears(t, w, stops(0, 5), nil)
	rests(t, w, 2)
	ticks(t, w, []api.Tele{halts(0, 5, down(0, 1), 0), acks(1, 0, 1), halts(2, 1, down(5, 1), 0)},
		end(0, turns(to(0, 1), 3)), sight(api.SeHalt, 0, down(0, 1)),
		end(1, runs(to(1, 4), api.North, 1, 3)),
		sight(api.SeBad, 2, down(5, 1)), end(2, drops(down(5, 1), 3)), sight(api.SeHalt, 2, down(5, 1)))
}
