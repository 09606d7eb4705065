package robot_test

import (
	"math"
	"testing"

	"skep/api"
	"skep/kinem"
	"skep/robot"
)

// cutTo is a run as it is cut to so many cells.
func cutTo(m api.Move, cells int) api.Move {
	m.N, m.To = cells, shifted(m.From, m.Dir, cells)
	return m
}

// isUnder fails unless just this move is under way.
func isUnder(t *testing.T, r *robot.Robot, want api.Move) {
	t.Helper()
	if m, ok := r.Now(); !ok || m != want {
		t.Fatalf("Now: %+v, %v, want %+v", m, ok, want)
	}
}

// P18.2: TeStop at one that stands: of an epoch above TeHalt, Stood; again TeHalt, Nothing; of one below none, Nothing.
func TestStopStanding(t *testing.T) {
	for i, p := range yard().Robots {
		r := made(t, yard(), i)
		r.Carry(40 + i)
		for _, epoch := range []int{1, 2, 3, 9, 1 << 40, math.MaxInt - 1, math.MaxInt} {
			halted := api.Tele{Kind: api.TeHalt, Robot: i, Epoch: epoch, Pose: p, Load: 40 + i}
			x := stops(epoch)
			x.Robot = i
			hears(t, r, x, robot.Stood, halted)
			if r.Epoch() != epoch || r.Pose() != p {
				t.Fatalf("epoch %d at %v, want %d at %v", r.Epoch(), r.Pose(), epoch, p)
			}
			for range 2 {
				hears(t, r, x, robot.Nothing, halted)
				rests(t, r, 1)
			}
			for _, below := range []int{epoch - 1, 0, -1, math.MinInt} {
				x.Epoch = below
				passes(t, r, x, robot.Nothing)
			}
		}
	}
}

// P18.2: TeStop of the epoch 0 says nothing to a robot of that epoch, nor does one of below 0, whatever it does.
func TestStopOfTheFirstEpoch(t *testing.T) {
	r := made(t, yard(), 0)
	all := func() {
		t.Helper()
		for _, epoch := range []int{0, -1, -2, math.MinInt} {
			passes(t, r, stops(epoch), robot.Nothing)
		}
	}
	all()
	m := runs(to(0, 0), api.East, 2, 6)
	hears(t, r, goes(0, 1, m), robot.Began)
	rests(t, r, 2)
	all()
	ticksTo(t, r, 4, robot.Done, m)
	all()
	does(t, r, 2, lifts(to(2, 0), 3))
	tells(t, r, acks(0, 2))
}

// P18.2: TeStop of its own epoch: answered as long as nothing was begun or done in it, else not; it cuts nothing.
func TestStopOfItsOwnEpoch(t *testing.T) {
	for _, epoch := range []int{1, 6} {
		r := made(t, yard(), 0)
		hears(t, r, stops(epoch), robot.Stood, halts(epoch, to(0, 0), 0))
		hears(t, r, stops(epoch), robot.Nothing, halts(epoch, to(0, 0), 0))
		m := runs(to(0, 0), api.East, 2, 6)
		hears(t, r, goes(epoch, 1, m), robot.Began)
		for range 5 {
			passes(t, r, stops(epoch), robot.Nothing)
			rests(t, r, 1)
		}
		ticksTo(t, r, 1, robot.Done, m)
		for num := 2; num < 5; num++ {
			passes(t, r, stops(epoch), robot.Nothing)
			does(t, r, num, lifts(to(2, 0), 1))
		}
		passes(t, r, stops(epoch), robot.Nothing)
		tells(t, r, acks(epoch, 4))
	}
}

// P18.2: behind a stop its last number is 0: the next go-ahead is number 1 of the new epoch, whatever was done ahead.
func TestStopBeginsNumbersAnew(t *testing.T) {
	for done := range 4 {
		r := made(t, yard(), 0)
		for i := range done {
			does(t, r, i+1, lifts(to(0, 0), 1))
		}
		hears(t, r, stops(1), robot.Stood, halts(1, to(0, 0), 0))
		for num := -1; num <= 5; num++ {
			if num != 1 {
				passes(t, r, goes(1, num, lifts(to(0, 0), 1)), robot.Nothing)
			}
			passes(t, r, goes(0, num, lifts(to(0, 0), 1)), robot.Refused)
		}
		does(t, r, 1, lifts(to(0, 0), 1))
		tells(t, r, acks(1, 1))
		hears(t, r, goes(1, 1, lifts(to(0, 0), 1)), robot.Nothing, acks(1, 1))
	}
}

// P18.2: a run is cut at each of its ticks: numbers reckoned by hand, with a unit of 10, an acceleration of 2, a speed of 4.
func TestStopCutsByHand(t *testing.T) {
	for _, x := range []struct{ n, gone, cells, more int }{
		{1, 0, 0, 1}, {1, 1, 1, 4}, {1, 2, 1, 2}, {1, 3, 1, 1}, {1, 4, 1, 1}, {1, 7, 1, 1},
		{2, 0, 0, 1}, {2, 1, 1, 4}, {2, 2, 1, 2}, {2, 3, 2, 3}, {2, 4, 2, 2}, {2, 5, 2, 1}, {2, 6, 2, 1}, {2, 8, 2, 1},
		{4, 0, 0, 1}, {4, 1, 1, 4}, {4, 2, 1, 2}, {4, 3, 2, 3}, {4, 4, 2, 2}, {4, 5, 2, 1},
	} {
		r := made(t, yard(), 0)
		r.Carry(7)
		m := runs(to(0, 0), api.East, x.n, 20)
		hears(t, r, goes(0, 1, m), robot.Began)
		rests(t, r, x.gone)
		hears(t, r, stops(1), robot.Nothing)
		if r.Epoch() != 1 || r.Pose() != to(0, 0) {
			t.Fatalf("epoch %d at %v", r.Epoch(), r.Pose())
		}
		isUnder(t, r, cutTo(m, x.cells))
		ticksTo(t, r, x.more, robot.Halted, cutTo(m, x.cells))
		tells(t, r, halts(1, to(x.cells, 0), 7))
	}
}

// P18.2: a run of each length, of robots of all paces, cut behind each tick, is cut as kinem's Stop says, but takes at least one tick more.
func TestStopCutsAsKinem(t *testing.T) {
	for _, p := range [][3]int{{10, 2, 4}, {1, 1, 1}, {5, 9, 3}, {2, 3, 10}, {30, 1, 6}, {12, 4, 12}, {1000, 100, 400}, {40, 7, 1000}} {
		k, _ := kinem.New(p[0], p[1], p[2])
		for n := 1; n <= 14; n++ {
			for gone := range k.Time(n) + 2 {
				r := made(t, lane(p[0], p[1], p[2]), 0)
				m := runs(to(0, 0), api.East, n, k.Time(n)+3)
				hears(t, r, goes(0, 1, m), robot.Began)
				rests(t, r, gone)
				hears(t, r, stops(3), robot.Nothing)
				cells, more := k.Stop(n, gone)
				isUnder(t, r, cutTo(m, cells))
				ticksTo(t, r, max(more, 1), robot.Halted, cutTo(m, cells))
			}
		}
	}
}

// P18.2: To is shifted in the run's own direction, of both kinds of poses.
func TestStopCutsEachDirection(t *testing.T) {
	for _, p := range []api.Pose{to(4, 4), down(4, 4)} {
		for dir := api.North; dir <= api.West; dir++ {
			c := yard()
			c.W, c.H, c.Blocked, c.Ports, c.Stacks, c.Robots = 9, 9, nil, nil, nil, []api.Pose{p}
			for gone, cells := range []int{0, 1, 1, 2, 2, 2, 3, 3} {
				r := made(t, c, 0)
				m := runs(p, dir, 3, 9)
				hears(t, r, goes(0, 1, m), robot.Began)
				rests(t, r, gone)
				hears(t, r, stops(1), robot.Nothing)
				isUnder(t, r, cutTo(m, cells))
			}
		}
	}
}

// P18.2: a cut turns N and To alone: when the run was to begin and to end stays as it was given; and it may take longer than it was to take.
func TestStopCutOfAHastyRun(t *testing.T) {
	r := made(t, yard(), 0)
	m := runs(to(0, 0), api.East, 4, 2)
	m.At, m.End = -8, 2
	hears(t, r, goes(0, 1, m), robot.Began)
	rests(t, r, 1)
	hears(t, r, stops(1), robot.Nothing)
	want := api.Move{Kind: api.Run, Dir: api.East, N: 1, From: to(0, 0), To: to(1, 0), At: -8, End: 2}
	isUnder(t, r, want)
	ticksTo(t, r, 4, robot.Halted, want)
}

// P18.2: a run of a time without end is cut like any other.
func TestStopCutOfAnEndlessRun(t *testing.T) {
	for _, gone := range []int{0, 3, 1000} {
		r := made(t, yard(), 0)
		m := runs(to(0, 0), api.South, 2, 0)
		m.At, m.End = 0, math.MaxInt
		hears(t, r, goes(0, 1, m), robot.Began)
		rests(t, r, gone)
		hears(t, r, stops(1), robot.Nothing)
		switch gone {
		case 0:
			ticksTo(t, r, 1, robot.Halted, cutTo(m, 0))
		case 3:
			ticksTo(t, r, 3, robot.Halted, cutTo(m, 2))
		default:
			ticksTo(t, r, 1, robot.Halted, m)
		}
	}
}

// P18.2: a run that was cut is not cut once more by a later stop, at whatever tick of it; the later epoch is its own.
func TestStopOfACutRun(t *testing.T) {
	for gone := range 6 {
		for more := range 4 {
			r := made(t, yard(), 0)
			m := runs(to(0, 0), api.East, 3, 9)
			hears(t, r, goes(0, 1, m), robot.Began)
			rests(t, r, gone)
			hears(t, r, stops(1), robot.Nothing)
			was, _ := r.Now()
			left := []int{1, 4, 2, 3, 2, 1}[gone]
			if more >= left {
				continue
			}
			rests(t, r, more)
			passes(t, r, stops(1), robot.Nothing)
			hears(t, r, stops(2), robot.Nothing)
			isUnder(t, r, was)
			hears(t, r, stops(5), robot.Nothing)
			isUnder(t, r, was)
			passes(t, r, goes(1, 1, m), robot.Refused)
			passes(t, r, goes(5, 1, m), robot.Nothing)
			ticksTo(t, r, left-more, robot.Halted, was)
			tells(t, r, halts(5, was.To, 0))
		}
	}
}

// P18.2: turns, lifts and drops go on to their end, stop or not.
func TestStopOfOtherMoves(t *testing.T) {
	for _, m := range []api.Move{turns(to(0, 0), 5), lifts(to(0, 0), 5), drops(to(0, 0), 5)} {
		for gone := range 5 {
			r := made(t, yard(), 0)
			hears(t, r, goes(0, 1, m), robot.Began)
			rests(t, r, gone)
			hears(t, r, stops(2), robot.Nothing)
			if r.Epoch() != 2 {
				t.Fatalf("epoch %d", r.Epoch())
			}
			isUnder(t, r, m)
			hears(t, r, stops(3), robot.Nothing)
			passes(t, r, stops(3), robot.Nothing)
			passes(t, r, stops(2), robot.Nothing)
			passes(t, r, goes(0, 1, m), robot.Refused)
			ticksTo(t, r, 5-gone, robot.Halted, m)
			tells(t, r, halts(3, m.To, 0))
			hears(t, r, stops(3), robot.Nothing, halts(3, m.To, 0))
		}
	}
}

// P18.2: a run of the new epoch is cut like the first: that the one ahead was cut is over with it.
func TestStopCutsEachRun(t *testing.T) {
	r := made(t, yard(), 0)
	p := to(0, 0)
	for epoch := range 3 {
		m := runs(p, api.South, 2, 6)
		hears(t, r, goes(epoch, 1, m), robot.Began)
		rests(t, r, 2)
		hears(t, r, stops(epoch+1), robot.Nothing)
		isUnder(t, r, cutTo(m, 1))
		ticksTo(t, r, 2, robot.Halted, cutTo(m, 1))
		p = shifted(p, api.South, 1)
	}
	tells(t, r, halts(3, to(0, 3), 0))
}

// P18.2: the ticks for which a run was delayed are none that it has been going.
func TestStopOfADelayedRun(t *testing.T) {
	for ahead := range 3 {
		r := made(t, yard(), 0)
		m := runs(to(0, 0), api.East, 3, 9)
		hears(t, r, goes(0, 1, m), robot.Began)
		rests(t, r, ahead)
		r.Delay(4)
		rests(t, r, 3)
		hears(t, r, stops(1), robot.Nothing)
		cells, more := []int{0, 1, 1}[ahead], []int{1, 4, 2}[ahead]
		isUnder(t, r, cutTo(m, cells))
		// One tick of the delay is left: a stop does not take it away.
		ticksTo(t, r, 1+more, robot.Halted, cutTo(m, cells))
	}
}
