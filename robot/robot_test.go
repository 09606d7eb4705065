package robot_test

import (
	"testing"

	"skep/api"
	"skep/robot"
)

// fails fails unless New answers nil and this error.
func fails(t *testing.T, what string, c api.Conf, i int, want api.Errno) {
	t.Helper()
	if r, e := robot.New(c, i); r != nil || e != want {
		t.Errorf("%s: New of %d: %v, error %d, want nil, %d", what, i, r, e, want)
	}
}

// P18.1: a config that may not be, whichever robot is asked for.
func TestNewOfNoConfig(t *testing.T) {
	for what, turn := range map[string]func(c *api.Conf){
		"nothing":                     func(c *api.Conf) { *c = api.Conf{} },
		"nothing but robots":          func(c *api.Conf) { *c = api.Conf{Robots: c.Robots} },
		"no width":                    func(c *api.Conf) { c.W = 0 },
		"too high":                    func(c *api.Conf) { c.H = 17 },
		"no unit":                     func(c *api.Conf) { c.Unit = 0 },
		"no acceleration":             func(c *api.Conf) { c.Accel = 0 },
		"too fast":                    func(c *api.Conf) { c.Speed = 1001 },
		"a number that no robot uses": func(c *api.Conf) { c.Resend = 0 },
		"a blocked cell beyond":       func(c *api.Conf) { c.Blocked = append(c.Blocked, at(6, 0)) },
		"a port twice":                func(c *api.Conf) { c.Ports = append(c.Ports, at(0, 4)) },
		"another robot beyond":        func(c *api.Conf) { c.Robots[2] = to(5, 4) },
		"two robots at one cell":      func(c *api.Conf) { c.Robots[1] = down(1, 0) },
		"a bin twice":                 func(c *api.Conf) { c.Stacks[1].Bins = []int{7} },
	} {
		c := yard()
		turn(&c)
		for _, i := range append(ends(), -1, 0, 1, 2, 3) {
			fails(t, what, c, i, api.ErrConf)
		}
	}
}

// P18.1: each robot that there is, and no other.
func TestNewRobots(t *testing.T) {
	for n := range api.MaxRobots + 1 {
		c := lane(10, 2, 4)
		c.Robots = nil
		for i := range n {
			c.Robots = append(c.Robots, to(2*i, i%2))
		}
		for _, i := range append(ends(), -2, -1, n, n+1, 8, 9) {
			if i < 0 || i >= n {
				fails(t, "no such robot", c, i, api.ErrArg)
			}
		}
		for i := range n {
			if r := made(t, c, i); r.Pose() != c.Robots[i] {
				t.Errorf("robot %d of %d: %v, want %v", i, n, r.Pose(), c.Robots[i])
			}
		}
	}
}

// P18.1: it stands where the config says, without a load, in the epoch 0, and nothing is under way.
func TestNewStands(t *testing.T) {
	for i, p := range yard().Robots {
		r := made(t, yard(), i)
		want := look{pose: p, tells: api.Tele{Kind: api.TeAck, Robot: i}}
		if got := seen(t, r); got != want {
			t.Errorf("robot %d: %+v, want %+v", i, got, want)
		}
		rests(t, r, 3)
		if got := seen(t, r); got != want {
			t.Errorf("robot %d behind ticks: %+v, want %+v", i, got, want)
		}
	}
}

// P18.1: what Carry says is its load, whatever the number and whatever was ahead; it turns nothing else.
func TestCarry(t *testing.T) {
	r := made(t, yard(), 0)
	hears(t, r, goes(0, 1, runs(to(0, 0), api.East, 2, 6)), robot.Began)
	rests(t, r, 2)
	want := seen(t, r)
	for _, n := range append(ends(), 7, 7, -1, 1, 0, 5) {
		r.Carry(n)
		want.load = n
		if got := seen(t, r); got != want {
			t.Fatalf("Carry of %d: %+v, want %+v", n, got, want)
		}
	}
	ticksTo(t, r, 4, robot.Done, runs(to(0, 0), api.East, 2, 6))
	if r.Load() != 5 {
		t.Errorf("behind a move: %d", r.Load())
	}
	hears(t, r, stops(1), robot.Stood, halts(1, to(2, 0), 5))
	r.Carry(0)
	tells(t, r, halts(1, to(2, 0), 0))
}

// P18.1: a robot lifts and drops without a load's coming or going by itself: Carry alone says it.
func TestLoadIsToldAlone(t *testing.T) {
	r := made(t, yard(), 0)
	does(t, r, 1, lifts(to(0, 0), 6))
	if r.Load() != 0 {
		t.Errorf("behind a Lift: %d", r.Load())
	}
	r.Carry(7)
	does(t, r, 2, drops(to(0, 0), 6))
	if r.Load() != 7 {
		t.Errorf("behind a Drop: %d", r.Load())
	}
}

// P18.1: Now is the move as it was given, each field of it, till its end.
func TestNow(t *testing.T) {
	for _, m := range []api.Move{
		runs(to(0, 0), api.East, 4, 11), runs(to(0, 0), api.South, 1, 3), turns(to(0, 0), 5), lifts(to(0, 0), 6), drops(to(0, 0), 1),
		{Kind: api.Lift, From: to(0, 0), To: to(0, 0), At: -9, End: 2},
	} {
		r := made(t, yard(), 0)
		hears(t, r, goes(0, 1, m), robot.Began)
		if got, ok := r.Now(); !ok || got != m || r.Pose() != to(0, 0) {
			t.Errorf("%+v, %v at %v, want %+v", got, ok, r.Pose(), m)
		}
		ticksTo(t, r, m.End-max(m.At, 0), robot.Done, m)
	}
}

// The chapter's example.
func TestExample(t *testing.T) {
	r := made(t, yard(), 0)
	hears(t, r, stops(1), robot.Stood, halts(1, to(0, 0), 0))
	passes(t, r, goes(0, 1, turns(to(0, 0), 5)), robot.Refused)
}
