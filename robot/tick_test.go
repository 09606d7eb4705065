package robot_test

import (
	"math"
	"testing"

	"skep/api"
	"skep/robot"
)

// P18.3: with nothing under way a tick is Still, and turns nothing.
func TestTickOfNothing(t *testing.T) {
	r := made(t, yard(), 0)
	still := func() {
		t.Helper()
		was := seen(t, r)
		rests(t, r, 5)
		if got := seen(t, r); got != was {
			t.Fatalf("%+v, was %+v", got, was)
		}
	}
	still()
	does(t, r, 1, runs(to(0, 0), api.East, 1, 4))
	still()
	hears(t, r, stops(1), robot.Stood, halts(1, to(1, 0), 0))
	still()
	hears(t, r, goes(1, 1, turns(to(1, 0), 5)), robot.Began)
	hears(t, r, stops(2), robot.Nothing)
	ticksTo(t, r, 5, robot.Halted, turns(to(1, 0), 5))
	still()
}

// P18.3: a move takes just so many ticks, whatever its kind would take by the config; then it is done, and the last number is one more.
func TestTickToDone(t *testing.T) {
	for ticks := 1; ticks <= 12; ticks++ {
		r := made(t, yard(), 0)
		does(t, r, 1, lifts(to(0, 0), ticks))
		tells(t, r, acks(0, 1))
		does(t, r, 2, runs(to(0, 0), api.East, 2, ticks))
		tells(t, r, acks(0, 2))
		does(t, r, 3, turns(to(2, 0), ticks))
		tells(t, r, acks(0, 3))
		does(t, r, 4, drops(down(2, 0), ticks))
		tells(t, r, acks(0, 4))
		if r.Pose() != down(2, 0) {
			t.Errorf("at %v", r.Pose())
		}
	}
}

// P18.3: behind Halted it is not stopping any more: the next move is Done.
func TestTickBehindHalted(t *testing.T) {
	for _, m := range []api.Move{runs(to(0, 0), api.South, 1, 4), turns(to(0, 0), 4), lifts(to(0, 0), 4)} {
		r := made(t, yard(), 0)
		hears(t, r, goes(0, 1, m), robot.Began)
		rests(t, r, 2)
		hears(t, r, stops(1), robot.Nothing)
		ticksTo(t, r, 2, robot.Halted, m)
		does(t, r, 1, lifts(m.To, 3))
		tells(t, r, acks(1, 1))
		does(t, r, 2, drops(m.To, 3))
		tells(t, r, acks(1, 2))
	}
}

// P18.3: one that stands while it is stopped is not stopping: its next move is Done.
func TestTickBehindStood(t *testing.T) {
	r := made(t, yard(), 0)
	hears(t, r, stops(1), robot.Stood, halts(1, to(0, 0), 0))
	does(t, r, 1, runs(to(0, 0), api.East, 1, 4))
	hears(t, r, stops(2), robot.Stood, halts(2, to(1, 0), 0))
	does(t, r, 1, runs(to(1, 0), api.East, 1, 4))
	tells(t, r, acks(2, 1))
}

// P18.3: a delay holds the move up by as many ticks, whenever it comes, and whatever the move.
func TestDelay(t *testing.T) {
	for _, m := range []api.Move{runs(to(0, 0), api.East, 2, 6), turns(to(0, 0), 6), lifts(to(0, 0), 6)} {
		for gone := range 6 {
			for delay := range 5 {
				r := made(t, yard(), 0)
				hears(t, r, goes(0, 1, m), robot.Began)
				rests(t, r, gone)
				was := seen(t, r)
				r.Delay(delay)
				if got := seen(t, r); got != was {
					t.Fatalf("Delay of %d: %+v, was %+v", delay, got, was)
				}
				ticksTo(t, r, 6-gone+delay, robot.Done, m)
			}
		}
	}
}

// P18.3: a delay of 0 or below holds nothing up, nor does it take from one ahead.
func TestDelayOfNothing(t *testing.T) {
	for _, ticks := range append(ends(), 0, -1, -2, -1000000) {
		if ticks > 0 {
			continue
		}
		r := made(t, yard(), 0)
		hears(t, r, goes(0, 1, lifts(to(0, 0), 4)), robot.Began)
		r.Delay(ticks)
		rests(t, r, 1)
		r.Delay(3)
		r.Delay(ticks)
		ticksTo(t, r, 6, robot.Done, lifts(to(0, 0), 4))
	}
}

// P18.3: with nothing under way there is no delay: the next move goes on at once.
func TestDelayOfOneThatStands(t *testing.T) {
	r := made(t, yard(), 0)
	for num := 1; num < 4; num++ {
		for _, ticks := range []int{1, 5, 1000000, math.MaxInt} {
			r.Delay(ticks)
		}
		rests(t, r, num)
		r.Delay(2)
		does(t, r, num, lifts(to(0, 0), num))
	}
	r.Delay(7)
	hears(t, r, stops(1), robot.Stood, halts(1, to(0, 0), 0))
	r.Delay(7)
	does(t, r, 1, turns(to(0, 0), 5))
}

// P18.3: several delays come together, while the one ahead runs too.
func TestDelaysTogether(t *testing.T) {
	r := made(t, yard(), 0)
	m := runs(to(0, 0), api.East, 2, 6)
	hears(t, r, goes(0, 1, m), robot.Began)
	r.Delay(2)
	r.Delay(3)
	rests(t, r, 4)
	r.Delay(4)
	// 5 are left of 9; then a tick of the move, and 2 more.
	rests(t, r, 6)
	r.Delay(1)
	r.Delay(1)
	ticksTo(t, r, 7, robot.Done, m)
}

// P18.3: together at most 1000000 ticks.
func TestDelayAtItsLimit(t *testing.T) {
	for _, delays := range [][]int{
		{1000000}, {1000001}, {999999, 1}, {999999, 2}, {1, 999999}, {500000, 500000}, {500000, 500001}, {1000000, 1000000},
		{math.MaxInt}, {math.MaxInt, math.MaxInt}, {1, math.MaxInt}, {math.MaxInt, 1}, {1000000, 1, math.MaxInt, 0, -5}, {end, end, end, end},
	} {
		r := made(t, yard(), 0)
		m := lifts(to(0, 0), 3)
		hears(t, r, goes(0, 1, m), robot.Began)
		for _, d := range delays {
			r.Delay(d)
		}
		rests(t, r, 1000000)
		ticksTo(t, r, 3, robot.Done, m)
	}
	for _, below := range [][]int{{999999}, {999998, 1}, {1, 999998}} {
		r := made(t, yard(), 0)
		m := lifts(to(0, 0), 3)
		hears(t, r, goes(0, 1, m), robot.Began)
		for _, d := range below {
			r.Delay(d)
		}
		rests(t, r, 999999)
		ticksTo(t, r, 3, robot.Done, m)
	}
}

// P18.3: what has gone by of a delay makes room for more: the limit is of what is left.
func TestDelayAtItsLimitAgain(t *testing.T) {
	r := made(t, yard(), 0)
	m := lifts(to(0, 0), 3)
	hears(t, r, goes(0, 1, m), robot.Began)
	r.Delay(1000000)
	rests(t, r, 1000)
	r.Delay(400)
	rests(t, r, 400)
	r.Delay(5000)
	rests(t, r, 1000000)
	ticksTo(t, r, 3, robot.Done, m)
}

// P18.3: when a move ends the robot is not delayed; the next one takes its own time.
func TestDelayIsOverWithTheMove(t *testing.T) {
	r := made(t, yard(), 0)
	for num := 1; num <= 3; num++ {
		m := lifts(to(0, 0), 2)
		hears(t, r, goes(0, num, m), robot.Began)
		rests(t, r, 1)
		r.Delay(3)
		ticksTo(t, r, 4, robot.Done, m)
		r.Delay(9)
	}
	does(t, r, 4, lifts(to(0, 0), 2))
	hears(t, r, goes(0, 5, turns(to(0, 0), 2)), robot.Began)
	r.Delay(3)
	hears(t, r, stops(1), robot.Nothing)
	r.Delay(1)
	ticksTo(t, r, 6, robot.Halted, turns(to(0, 0), 2))
	does(t, r, 1, turns(down(0, 0), 2))
}

// P18.3: a run that was cut can be delayed too.
func TestDelayOfACutRun(t *testing.T) {
	r := made(t, yard(), 0)
	m := runs(to(0, 0), api.East, 3, 9)
	hears(t, r, goes(0, 1, m), robot.Began)
	rests(t, r, 2)
	hears(t, r, stops(1), robot.Nothing)
	r.Delay(3)
	rests(t, r, 1)
	hears(t, r, stops(2), robot.Nothing)
	ticksTo(t, r, 4, robot.Halted, cutTo(m, 1))
	tells(t, r, halts(2, to(1, 0), 0))
}
