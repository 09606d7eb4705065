package plan_test

import (
	"slices"
	"testing"

	"skep/api"
	"skep/plan"
	"skep/resv"
)

// since is wants without what lies ahead of a tick.
func since(l []resv.Want, at int) []resv.Want {
	var out []resv.Want
	for _, w := range l {
		w.From = max(w.From, at)
		if w.From < w.To {
			out = append(out, w)
		}
	}
	return out
}

// P13.4: a round is Right, begins at at or later, does at each stop what it asks for, ends at home; and what it has from at on can be claimed.
func TestRoundsCanBeClaimed(t *testing.T) {
	var luck chance = 11
	rounds, refused := 0, 0
	for range 3000 {
		q := drawQuestion(&luck, 6)
		moves, e := q.round()
		if e != api.OK {
			continue
		}
		rounds++
		g := gridOf(t, q.c)
		right(t, q.c, q.from, moves, true)
		stops, pose := q.stops, q.from
		for _, m := range moves {
			if m.At < q.at {
				t.Fatalf("ahead of %d: %v", q.at, moves)
			}
			if m.Kind == api.Lift || m.Kind == api.Drop {
				if len(stops) == 0 || (plan.Stop{At: m.From.At, Kind: m.Kind}) != stops[0] {
					t.Fatalf("%v is no stop of %v", m, q.stops)
				}
				stops = stops[1:]
			}
			pose = m.To
		}
		if len(stops) > 0 || pose != q.home {
			t.Fatalf("stops %v left, at %v", stops, pose)
		}
		all := plan.Holds(g, q.from, moves)
		if e := q.r.Claim(q.robot, since(all, q.at)); e != api.OK {
			t.Fatalf("error %d of %v", e, all)
		}
		if q.r.Claim(q.robot, all) != api.OK {
			refused++
		}
	}
	if rounds < 800 || refused < 20 {
		t.Errorf("%d rounds, %d of them with another's ticks ahead", rounds, refused)
	}
}

// P13.4: robots whose rounds are planned one behind the other, each claimed ahead of the next, never have a cell in common.
func TestRoundsOfManyRobots(t *testing.T) {
	var luck chance = 13
	planned := 0
	for range 60 {
		c := plainConf(6, 6)
		homes := []api.Pose{flat(0, 0), flat(2, 0), flat(4, 0), flat(0, 5)}
		g, r := gridOf(t, c), tableOf(t, 36)
		for robot, home := range homes {
			if e := r.Claim(robot, plan.Holds(g, home, nil)); e != api.OK {
				t.Fatal(e)
			}
		}
		rounds := make([][]api.Move, len(homes))
		for robot, home := range homes {
			q := question{c: c, r: r, robot: robot, from: home, at: luck.below(9), home: home}
			q.stops = []plan.Stop{lifts(luck.below(5), 1+luck.below(4)), drops(luck.below(5), 1+luck.below(4))}
			moves, e := q.round()
			if e != api.OK {
				continue
			}
			planned++
			// What it had while it stood is given back for what it has by its round.
			r.Clear(robot)
			if e := r.Claim(robot, plan.Holds(g, home, moves)); e != api.OK {
				t.Fatalf("error %d of %v", e, moves)
			}
			rounds[robot] = moves
		}
		for tick := range 200 {
			var has []int
			for robot, moves := range rounds {
				has = append(has, coverAt(g, homes[robot], moves, tick)...)
			}
			slices.Sort(has)
			if len(slices.Compact(slices.Clone(has))) != len(has) {
				t.Fatalf("at %d: %v", tick, has)
			}
		}
	}
	if planned < 100 {
		t.Errorf("%d planned", planned)
	}
}

// P13.4: with nobody else's slots a later at makes all later by just so much, and the robot never waits.
func TestLaterIsAlike(t *testing.T) {
	var luck chance = 17
	for range 300 {
		q := drawQuestion(&luck, 5)
		q.r, _ = resv.New(q.c.W * q.c.H)
		q.at = 0
		moves, e := q.round()
		last := 0
		for _, m := range moves {
			if m.At != last {
				t.Fatalf("it waits: %v", moves)
			}
			last = m.End
		}
		for _, by := range []int{1, 30, 1 << 40, end - 100000} {
			later := slices.Clone(moves)
			for i := range later {
				later[i].At += by
				later[i].End += by
			}
			q.at = by
			answers(t, q, later, e)
		}
	}
}
