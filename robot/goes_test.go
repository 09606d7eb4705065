package robot_test

import (
	"math"
	"testing"

	"skep/api"
	"skep/robot"
)

// P18.2: a telegram for another robot is none of its business, whatever it says; by its own number it is.
func TestHearForAnother(t *testing.T) {
	for i, p := range yard().Robots {
		for _, other := range append(ends(), -1, 0, 1, 2, 3) {
			if other == i {
				continue
			}
			r := made(t, yard(), i)
			for _, x := range []api.Tele{goes(0, 1, lifts(p, 6)), goes(-1, 1, lifts(p, 6)), stops(1), stops(math.MaxInt)} {
				x.Robot = other
				passes(t, r, x, robot.Nothing)
			}
			x := goes(0, 1, lifts(p, 6))
			x.Robot = i
			hears(t, r, x, robot.Began)
			halt := stops(4)
			halt.Robot = other
			passes(t, r, halt, robot.Nothing)
			ticksTo(t, r, 6, robot.Done, lifts(p, 6))
			tells(t, r, api.Tele{Kind: api.TeAck, Robot: i, Num: 1})
			// The last number again is answered by its own number alone.
			x.Robot = other
			passes(t, r, x, robot.Nothing)
			x.Robot = i
			hears(t, r, x, robot.Nothing, api.Tele{Kind: api.TeAck, Robot: i, Num: 1})
		}
	}
}

// P18.2: kinds other than TeGo and TeStop, standing and under way, in the epoch 0 and behind it.
func TestHearOtherKinds(t *testing.T) {
	for _, kind := range append(ends(), -1, 0, api.TeAck, api.TeHalt, 5, 6) {
		r := made(t, yard(), 0)
		all := func() {
			t.Helper()
			for _, epoch := range []int{-1, 0, 1, 2, 3} {
				for _, num := range []int{0, 1, 2} {
					x := goes(epoch, num, lifts(to(0, 0), 6))
					x.Kind = kind
					passes(t, r, x, robot.Nothing)
				}
			}
		}
		all()
		hears(t, r, goes(0, 1, lifts(to(0, 0), 6)), robot.Began)
		all()
		ticksTo(t, r, 6, robot.Done, lifts(to(0, 0), 6))
		all()
		hears(t, r, stops(2), robot.Stood, halts(2, to(0, 0), 0))
		all()
	}
	passes(t, made(t, yard(), 0), api.Tele{}, robot.Nothing)
}

// P18.2: a go-ahead of an epoch below is refused, one of an epoch above passes, one of its own is begun.
func TestGoEpochs(t *testing.T) {
	for _, own := range []int{0, 1, 2, 7, math.MaxInt - 1, math.MaxInt} {
		for _, epoch := range append(ends(), -1, 0, 1, 2, 3, 6, 7, 8) {
			r := made(t, yard(), 0)
			if own > 0 {
				hears(t, r, stops(own), robot.Stood, halts(own, to(0, 0), 0))
			}
			x := goes(epoch, 1, turns(to(0, 0), 5))
			switch {
			case epoch < own:
				passes(t, r, x, robot.Refused)
			case epoch > own:
				passes(t, r, x, robot.Nothing)
			default:
				hears(t, r, x, robot.Began)
				ticksTo(t, r, 5, robot.Done, x.Move)
				tells(t, r, acks(own, 1))
			}
		}
	}
}

// P18.2: the epoch is asked ahead of all else: of an older one any go-ahead is refused, also one that would be none, and while a move is under way.
func TestGoOfOlderEpochWhatever(t *testing.T) {
	r := made(t, yard(), 0)
	m := lifts(to(0, 0), 6)
	hears(t, r, stops(3), robot.Stood, halts(3, to(0, 0), 0))
	all := func() {
		t.Helper()
		for _, epoch := range []int{2, 0, -1, math.MinInt} {
			for _, num := range []int{-1, 0, 1, 2, 3, math.MaxInt} {
				passes(t, r, goes(epoch, num, m), robot.Refused)
				passes(t, r, goes(epoch, num, api.Move{}), robot.Refused)
			}
		}
		for _, num := range []int{0, 1, 2} {
			passes(t, r, goes(4, num, m), robot.Nothing)
		}
	}
	all()
	hears(t, r, goes(3, 1, m), robot.Began)
	all()
	ticksTo(t, r, 6, robot.Done, m)
	all()
	does(t, r, 2, m)
	all()
}

// P18.2: while a move is under way no go-ahead is taken or answered, whatever its number.
func TestGoUnderWay(t *testing.T) {
	r := made(t, yard(), 0)
	first, second := lifts(to(0, 0), 2), runs(to(0, 0), api.East, 1, 4)
	does(t, r, 1, first)
	hears(t, r, goes(0, 2, second), robot.Began)
	for range 3 {
		for num := -1; num <= 4; num++ {
			passes(t, r, goes(0, num, first), robot.Nothing)
			passes(t, r, goes(0, num, second), robot.Nothing)
			passes(t, r, goes(0, num, drops(to(1, 0), 1)), robot.Nothing)
		}
		rests(t, r, 1)
	}
	ticksTo(t, r, 1, robot.Done, second)
	hears(t, r, goes(0, 2, second), robot.Nothing, acks(0, 2))
	does(t, r, 3, drops(to(1, 0), 1))
}

// P18.2: the last number again is answered by TeAck, with whatever move; one more is begun; any other passes.
func TestGoNumbers(t *testing.T) {
	for _, epoch := range []int{0, 5} {
		for done := range 5 {
			for _, num := range append(ends(), -2, -1, 0, 1, 2, 3, 4, 5, 6, 7) {
				r := made(t, yard(), 0)
				if epoch > 0 {
					r.Hear(stops(epoch))
				}
				for i := range done {
					does(t, r, i+1, lifts(to(0, 0), 1))
				}
				m := runs(to(0, 0), api.South, 2, 6)
				switch {
				case num == done && num > 0:
					for _, again := range []api.Move{lifts(to(0, 0), 1), m, {}, {Kind: api.Run, Dir: 9, N: -1, End: -3}} {
						was := seen(t, r)
						hears(t, r, goes(epoch, num, again), robot.Nothing, acks(epoch, num))
						if got := seen(t, r); got != was {
							t.Fatalf("the last again: %+v, was %+v", got, was)
						}
					}
				case num == done+1:
					hears(t, r, goes(epoch, num, m), robot.Began)
					ticksTo(t, r, 6, robot.Done, m)
					tells(t, r, acks(epoch, num))
				default:
					passes(t, r, goes(epoch, num, m), robot.Nothing)
				}
			}
		}
	}
}

// P18.2: From must be its pose: each of the others' moves passes, legal as it may be.
func TestGoFrom(t *testing.T) {
	for x := range 6 {
		for y := range 5 {
			for _, p := range []api.Pose{to(x, y), down(x, y)} {
				r := made(t, yard(), 0)
				if p == to(0, 0) {
					hears(t, r, goes(0, 1, lifts(p, 6)), robot.Began)
				} else {
					passes(t, r, goes(0, 1, lifts(p, 6)), robot.Nothing)
					passes(t, r, goes(0, 1, runs(p, api.North, 1, 4)), robot.Nothing)
					passes(t, r, goes(0, 1, turns(p, 5)), robot.Nothing)
				}
			}
		}
	}
	r := made(t, yard(), 0)
	does(t, r, 1, runs(to(0, 0), api.East, 1, 4))
	passes(t, r, goes(0, 2, lifts(to(0, 0), 6)), robot.Nothing)
	does(t, r, 2, turns(to(1, 0), 5))
	passes(t, r, goes(0, 3, lifts(to(1, 0), 6)), robot.Nothing)
	does(t, r, 3, lifts(down(1, 0), 6))
}

// P18.2: a move that is not legal passes.
func TestGoLegal(t *testing.T) {
	home := to(0, 0)
	for what, m := range map[string]api.Move{
		"none":                     {At: 0, End: 5},
		"no kind":                  {From: home, To: home, End: 5},
		"a kind beyond":            {Kind: 5, From: home, To: home, End: 5},
		"a run of no cells":        runs(home, api.East, 0, 5),
		"a run backwards":          runs(home, api.East, -1, 5),
		"a run out of the grid":    runs(home, api.East, 5, 5),
		"a run to the north":       runs(home, api.North, 1, 5),
		"a run to the west":        runs(home, api.West, 1, 5),
		"a run that is too long":   runs(home, api.South, 17, 5),
		"a run in no direction":    {Kind: api.Run, Dir: 4, N: 1, From: home, To: to(1, 0), End: 5},
		"a run to elsewhere":       {Kind: api.Run, Dir: api.East, N: 1, From: home, To: to(2, 0), End: 5},
		"a run that turns":         {Kind: api.Run, Dir: api.East, N: 1, From: home, To: down(1, 0), End: 5},
		"a turn that does not":     {Kind: api.Turn, From: home, To: home, End: 5},
		"a turn to elsewhere":      {Kind: api.Turn, From: home, To: down(1, 0), End: 5},
		"a turn with cells":        {Kind: api.Turn, N: 1, From: home, To: down(0, 0), End: 5},
		"a turn with a direction":  {Kind: api.Turn, Dir: 1, From: home, To: down(0, 0), End: 5},
		"a lift that moves":        {Kind: api.Lift, From: home, To: to(1, 0), End: 5},
		"a drop with a direction":  {Kind: api.Drop, Dir: 1, From: home, To: home, End: 5},
		"a drop with cells":        {Kind: api.Drop, N: 1, From: home, To: home, End: 5},
		"a number at its limit":    {Kind: api.Run, Dir: api.East, N: math.MinInt, From: home, To: home, End: 5},
		"a direction at its limit": {Kind: api.Run, Dir: math.MinInt, N: 1, From: home, To: home, End: 5},
		"a pose at its limit":      {Kind: api.Run, Dir: api.East, N: 1, From: home, To: to(math.MaxInt, 0), End: 5},
	} {
		r := made(t, yard(), 0)
		if less(m.End, m.At) == 0 {
			t.Fatalf("%s: it has no time", what)
		}
		passes(t, r, goes(0, 1, m), robot.Nothing)
		rests(t, r, 2)
		does(t, r, 1, turns(home, 5))
	}
	// At the blocked cell 3, 2: neither a run through, nor a turn beside.
	r := made(t, yard(), 0)
	does(t, r, 1, runs(home, api.South, 2, 6))
	passes(t, r, goes(0, 2, runs(to(0, 2), api.East, 2, 6)), robot.Nothing)
	does(t, r, 2, runs(to(0, 2), api.East, 1, 4))
	does(t, r, 3, runs(to(1, 2), api.North, 1, 4))
	does(t, r, 4, runs(to(1, 1), api.East, 1, 4))
	passes(t, r, goes(0, 5, turns(to(2, 1), 5)), robot.Nothing)
	does(t, r, 5, runs(to(2, 1), api.East, 2, 6))
}

// P18.2: End at or ahead of At passes; else it takes End less At ticks, as chapter 1 has it.
func TestGoTimes(t *testing.T) {
	for _, x := range []struct{ at, end, ticks int }{
		{0, 0, 0}, {5, 5, 0}, {6, 5, 0}, {5, 6, 1}, {0, 1, 1}, {1, 0, 0}, {50, 57, 7}, {0, 1000, 1000},
		{-5, 0, 0}, {-5, -1, 0}, {-5, 3, 3}, {3, -5, 0}, {math.MinInt, 2, 2}, {math.MinInt, math.MinInt, 0}, {math.MaxInt, math.MinInt, 0},
		{end - 3, end - 1, 2}, {end - 1, end - 1, 0}, {end, end - 1, 0}, {end + 1, end - 1, 0}, {math.MaxInt, 5, 0}, {math.MinInt, 0, 0},
		{0, end, end}, {end - 1, end, end}, {end, end, end}, {end + 1, end, end}, {end, end + 5, end}, {math.MaxInt, math.MaxInt, end}, {math.MinInt, math.MaxInt, end},
		{0, end - 1, end - 1},
	} {
		for _, m := range []api.Move{lifts(to(0, 0), 0), turns(to(0, 0), 0), runs(to(0, 0), api.East, 3, 0)} {
			m.At, m.End = x.at, x.end
			r := made(t, yard(), 0)
			switch {
			case x.ticks == 0:
				passes(t, r, goes(0, 1, m), robot.Nothing)
				rests(t, r, 2)
			case x.ticks <= 1000:
				hears(t, r, goes(0, 1, m), robot.Began)
				ticksTo(t, r, x.ticks, robot.Done, m)
			default:
				hears(t, r, goes(0, 1, m), robot.Began)
				rests(t, r, 2000)
				if got, ok := r.Now(); !ok || got != m {
					t.Errorf("%+v, %v, want %+v", got, ok, m)
				}
			}
		}
	}
}

// P18.2: a telegram's other fields say nothing to a robot.
func TestGoAndStopOtherFields(t *testing.T) {
	for _, n := range append(ends(), -1, 1, 9) {
		r := made(t, yard(), 0)
		x := goes(0, 1, lifts(to(0, 0), 2))
		x.Pose, x.Load = api.Pose{At: at(n, n), Down: true}, n
		hears(t, r, x, robot.Began)
		ticksTo(t, r, 2, robot.Done, x.Move)
		hears(t, r, x, robot.Nothing, acks(0, 1))
		halt := x
		halt.Kind, halt.Epoch, halt.Num = api.TeStop, 1, n
		hears(t, r, halt, robot.Stood, halts(1, to(0, 0), 0))
		hears(t, r, halt, robot.Nothing, halts(1, to(0, 0), 0))
	}
}

// P18.2: a go-ahead that passes leaves the next one as it would have been.
func TestPassedGoTurnsNothing(t *testing.T) {
	r := made(t, yard(), 0)
	for num := 1; num <= 4; num++ {
		m := lifts(to(0, 0), num)
		passes(t, r, goes(0, num+1, m), robot.Nothing)
		passes(t, r, goes(1, num, m), robot.Nothing)
		passes(t, r, goes(-1, num, m), robot.Refused)
		passes(t, r, goes(0, num, lifts(to(1, 0), 3)), robot.Nothing)
		passes(t, r, goes(0, num, lifts(to(0, 0), 0)), robot.Nothing)
		rests(t, r, 1)
		does(t, r, num, m)
	}
}
