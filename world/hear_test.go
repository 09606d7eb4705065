package world_test

import (
	"testing"

	"skep/api"
)

// P19.2: a telegram is heard by the robot it is for, and by no other.
func TestHearOfEach(t *testing.T) {
	for _, c := range confs() {
		for i, p := range c.Robots {
			w, m := made(t, c), modelOf(c)
			both(t, w, m, call{kind: pass})
			both(t, w, m, call{kind: hear, tele: goes(i, 0, 1, lifts(p, 3))})
			for j := range c.Robots {
				if _, ok := w.Under(j); ok != (i == j) {
					t.Errorf("of %d: under way for %d: %v", i, j, ok)
				}
			}
			both(t, w, m, call{kind: hear, tele: stops(i, 4)})
			for range 4 {
				both(t, w, m, call{kind: pass})
			}
		}
	}
}

// P19.2: a robot that there is not answers nothing, and nothing is seen.
func TestHearOfNobody(t *testing.T) {
	for _, c := range confs() {
		w, m := made(t, c), modelOf(c)
		for _, i := range append(ends(), -9, -1, len(c.Robots), len(c.Robots)+1) {
			for _, x := range []api.Tele{goes(i, 0, 1, lifts(to(0, 1), 6)), goes(i, -1, 1, lifts(to(0, 1), 6)), stops(i, 1), acks(i, 0, 1), halts(i, 1, to(0, 1), 0), {Robot: i}} {
				hears(t, w, x, nil)
			}
		}
		same(t, w, m)
	}
}

// P19.2: a move that is begun: no answer, SeStart with the robot, its pose and the move, now; each kind of move.
func TestBegan(t *testing.T) {
	p := to(0, 1)
	for _, n := range []int{0, 1, 7} {
		for _, m := range []api.Move{runs(p, api.East, 2, 9), runs(p, api.North, 1, 4), turns(p, 5), lifts(p, 6), drops(p, 1)} {
			w := made(t, yard())
			rests(t, w, n)
			hears(t, w, goes(0, 0, 1, m), nil, api.Sight{Kind: api.SeStart, Robot: 0, Pose: p, Move: m})
			if s := w.Sights(); s[0].Tick != n || s[0].Bin != 0 {
				t.Errorf("%+v", s)
			}
		}
	}
}

// P19.2: SeStart has the pose at which the robot is by now, and bin 0 also of one that has a bin.
func TestBeganLoaded(t *testing.T) {
	w := made(t, yard())
	does(t, w, 0, 1, runs(to(0, 1), api.North, 1, 4))
	does(t, w, 0, 2, runs(to(0, 0), api.East, 1, 4))
	does(t, w, 0, 3, lifts(to(1, 0), 6), of(api.SeLift, 0, 8, to(1, 0)))
	m := turns(to(1, 0), 5)
	hears(t, w, goes(0, 0, 4, m), nil, api.Sight{Kind: api.SeStart, Robot: 0, Pose: to(1, 0), Move: m})
	if s := w.Sights(); s[len(s)-1].Tick != 14 {
		t.Errorf("%+v", s[len(s)-1])
	}
	rests(t, w, 2)
	// Under way its pose is where it began.
	hears(t, w, goes(0, -1, 5, m), nil, sight(api.SeRefuse, 0, to(1, 0)))
	rests(t, w, 2)
	ticks(t, w, []api.Tele{acks(0, 0, 4)}, end(0, m))
	hears(t, w, goes(0, -1, 5, m), nil, sight(api.SeRefuse, 0, down(1, 0)))
	hears(t, w, stops(0, 1), []api.Tele{halts(0, 1, down(1, 0), 8)}, sight(api.SeHalt, 0, down(1, 0)))
}

// P19.2: a go-ahead of an older epoch: no answer, SeRefuse, each time that it comes.
func TestRefused(t *testing.T) {
	w := made(t, yard())
	hears(t, w, stops(2, 3), []api.Tele{halts(2, 3, down(5, 1), 0)}, sight(api.SeHalt, 2, down(5, 1)))
	for range 3 {
		rests(t, w, 2)
		for _, epoch := range []int{2, 0, -1} {
			hears(t, w, goes(2, epoch, 1, lifts(down(5, 1), 6)), nil, sight(api.SeRefuse, 2, down(5, 1)))
			hears(t, w, goes(2, epoch, 9, api.Move{}), nil, sight(api.SeRefuse, 2, down(5, 1)))
		}
	}
	// The others are of the epoch 0 yet.
	begins(t, w, 0, 1, lifts(to(0, 1), 6))
}

// P19.2: a robot that hears of a stop while it stands: TeHalt, SeHalt; of the same stop once more: TeHalt, and nothing is seen.
func TestStood(t *testing.T) {
	w := made(t, yard())
	for i, p := range yard().Robots {
		rests(t, w, 1)
		hears(t, w, stops(i, 1), []api.Tele{halts(i, 1, p, 0)}, sight(api.SeHalt, i, p))
		hears(t, w, stops(i, 1), []api.Tele{halts(i, 1, p, 0)})
		hears(t, w, stops(i, 0), nil)
		hears(t, w, stops(i, 7), []api.Tele{halts(i, 7, p, 0)}, sight(api.SeHalt, i, p))
		hears(t, w, stops(i, 1), nil)
	}
}

// P19.2: what a robot takes as nothing is not seen, answered or not.
func TestNothing(t *testing.T) {
	w := made(t, yard())
	home := to(0, 1)
	for _, x := range []api.Tele{
		goes(0, 0, 2, lifts(home, 6)), goes(0, 0, 0, lifts(home, 6)), goes(0, 1, 1, lifts(home, 6)), goes(0, 0, 1, lifts(to(1, 4), 6)),
		goes(0, 0, 1, runs(home, api.West, 1, 4)), goes(0, 0, 1, lifts(home, 0)), goes(0, 0, 1, api.Move{}), stops(0, 0), stops(0, -1),
		acks(0, 0, 1), halts(0, 0, home, 0), {}, {Kind: 5}, {Kind: -1},
	} {
		hears(t, w, x, nil)
	}
	m := lifts(home, 4)
	begins(t, w, 0, 1, m)
	hears(t, w, goes(0, 0, 1, m), nil)
	hears(t, w, goes(0, 0, 2, m), nil)
	rests(t, w, 3)
	ticks(t, w, []api.Tele{acks(0, 0, 1)}, sight(api.SeBad, 0, home), end(0, m))
	for range 2 {
		hears(t, w, goes(0, 0, 1, m), []api.Tele{acks(0, 0, 1)})
		rests(t, w, 1)
	}
	// A stop under way is heard, but what it does is seen at the move's end alone.
	begins(t, w, 0, 2, m)
	hears(t, w, stops(0, 2), nil)
	hears(t, w, stops(0, 2), nil)
}
