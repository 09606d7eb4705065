package hive_test

import (
	"testing"

	"skep/api"
	"skep/codec"
	"skep/disk"
	"skep/hive"
)

// outward is a hive in an epoch in which both robots are out for a move, with its disk and what it has told for that.
func outward(t *testing.T, c api.Conf, epoch int) (*hive.Hive, *disk.Disk, []api.Tele) {
	t.Helper()
	h, d := within(t, c, turned(firstOf(t, c), func(s *api.State) { s.Epoch = epoch }), 0)
	all(t, h, opOrder(9, 0), opOrder(5, 1))
	l, e := h.Do(opTick())
	if e != api.OK || len(l) != 2 {
		t.Fatalf("error %d, %+v", e, l)
	}
	return h, d, l
}

// junk is a telegram with all set that is not looked at in it.
func junk(x api.Tele) api.Tele {
	x.Move = api.Move{Kind: 9, Dir: -1, N: 1 << 40, From: flat(-1, 1), At: -7}
	switch x.Kind {
	case api.TeAck:
		x.Pose, x.Load = down(77, -1), -5
	case api.TeHalt:
		x.Num = 99
	}
	return x
}

// P21.4: TeAck of the hive's epoch, of a robot that is out, with its Num: it has done its move; nothing waits for it any more; a second time it is nothing.
func TestAck(t *testing.T) {
	c := yard()
	for _, epoch := range []int{0, 3} {
		h, d, l := outward(t, c, epoch)
		s := behindAll(t, c, h.State(), evDone(1))
		hears(t, h, junk(teAck(1, epoch, 1)))
		same(t, h.State(), s)
		if _, got := events(t, c, d); len(got) == 0 || got[len(got)-1].Kind != api.EvDone || got[len(got)-1].A != 1 {
			t.Fatalf("%+v", got)
		}
		if d.Pending(0) == 0 {
			t.Fatal("certain too soon")
		}
		ignores(t, h, d, teAck(1, epoch, 1), junk(teAck(1, epoch, 1)))
		// The other one is told again, and no more than that one.
		for h.Now() < c.Resend {
			all(t, h, opTick())
		}
		again, _ := h.Do(opTick())
		for _, x := range again {
			if x == l[1] {
				t.Fatalf("%+v", again)
			}
		}
		if len(again) == 0 || again[len(again)-1] != l[0] && again[0] != l[0] {
			t.Fatalf("%+v", again)
		}
		hears(t, h, teAck(0, epoch, 1))
	}
}

// P21.4: TeAck of another epoch, with another Num, of another robot: nothing.
func TestAckOfOthers(t *testing.T) {
	c := yard()
	h, d, l := outward(t, c, 3)
	for _, num := range append(ends(), -1, 0, 2, 3) {
		ignores(t, h, d, teAck(0, 3, num))
	}
	for _, epoch := range append(ends(), -1, 0, 1, 2, 4, 5) {
		ignores(t, h, d, teAck(0, epoch, 1), teAck(1, epoch, 1))
	}
	for _, robot := range append(ends(), -2, -1, 2, 3) {
		ignores(t, h, d, teAck(robot, 3, 1))
	}
	// All still wait.
	for h.Now() < c.Resend {
		does(t, h, opTick())
	}
	does(t, h, opTick(), l...)
	// Of a robot that is not out: that never was, and that was.
	h, d = within(t, c, firstOf(t, c), 0)
	all(t, h, opOrder(9, 0), opTick())
	for _, num := range []int{-1, 0, 1} {
		ignores(t, h, d, teAck(1, 0, num))
	}
	hears(t, h, teAck(0, 0, 1))
	for _, num := range []int{0, 1, 2} {
		ignores(t, h, d, teAck(0, 0, num))
	}
	ignores(t, made(t, unmanned(), disk.New(), 0), d, teAck(0, 0, 0), teHalt(0, 0, flat(0, 0), 0))
}

// P21.4: while held a TeAck is nothing, of whatever epoch; and none of the old one behind the resume.
func TestAckWhileHeld(t *testing.T) {
	c := yard()
	h, d, _ := outward(t, c, 0)
	all(t, h, opStop())
	for epoch := range 3 {
		for num := range 3 {
			ignores(t, h, d, teAck(0, epoch, num), teAck(1, epoch, num))
		}
	}
	s := h.State()
	hears(t, h, teHalt(0, 1, s.Robots[0].At, 0), teHalt(1, 1, s.Robots[1].At, 0))
	all(t, h, opResume())
	l, _ := h.Do(opTick())
	if len(l) != 2 {
		t.Fatalf("%+v", l)
	}
	ignores(t, h, d, teAck(0, 0, 1), teAck(1, 0, 1))
	hears(t, h, teAck(0, 1, 1), teAck(1, 1, 1))
}

// P21.4: TeHalt of the hive's epoch, while held, of what can be: it stands there; nothing waits for it any more; a second time it is nothing.
func TestHalt(t *testing.T) {
	c := yard()
	h, d, l := outward(t, c, 0)
	all(t, h, opStop())
	// Robot 0 is told to have been stopped on its way, robot 1 at the end of its.
	m := l[0].Move
	if m.Kind != api.Run || m.N < 1 {
		t.Fatalf("%+v", m)
	}
	want := behindAll(t, c, h.State(), evHalt(0, 0, m.To))
	hears(t, h, junk(teHalt(0, 1, m.To, 0)))
	same(t, h.State(), want)
	if d.Pending(0) == 0 {
		t.Fatal("certain too soon")
	}
	ignores(t, h, d, teHalt(0, 1, m.To, 0), teHalt(0, 1, m.From, 0))
	for h.Now() < c.Resend {
		does(t, h, opTick())
	}
	does(t, h, opTick(), teStop(1, 1))
	hears(t, h, teHalt(1, 1, l[1].Move.From, 0))
	for range 2 * c.Resend {
		does(t, h, opTick())
	}
	all(t, h, opResume())
	ignores(t, h, d, teHalt(0, 1, m.To, 0), teHalt(1, 1, l[1].Move.From, 0))
}

// P21.4: TeHalt of another epoch, of what cannot be, or while not held: nothing.
func TestHaltOfOthers(t *testing.T) {
	c := yard()
	h, d, l := outward(t, c, 3)
	s := h.State()
	for epoch := range 6 {
		ignores(t, h, d, teHalt(0, epoch, s.Robots[0].At, 0), teHalt(1, epoch, s.Robots[1].At, 0))
	}
	all(t, h, opStop())
	for _, epoch := range append(ends(), -1, 0, 1, 2, 3, 5, 6) {
		ignores(t, h, d, teHalt(0, epoch, s.Robots[0].At, 0), teHalt(1, epoch, l[1].Move.To, 0))
	}
	for _, robot := range append(ends(), -2, -1, 2, 3) {
		ignores(t, h, d, teHalt(robot, 4, s.Robots[0].At, 0))
	}
	for _, load := range append(ends(), -1, 1, 5, 9) {
		ignores(t, h, d, teHalt(0, 4, s.Robots[0].At, load))
	}
	for _, p := range []api.Pose{flat(1, 1), down(0, 1), flat(0, 0), flat(-1, 2), s.Robots[1].At, {}} {
		if p != l[0].Move.To {
			ignores(t, h, d, teHalt(0, 4, p, 0))
		}
	}
	// All still wait.
	for h.Now() < c.Resend {
		does(t, h, opTick())
	}
	does(t, h, opTick(), stops(c, 4)...)
	hears(t, h, teHalt(0, 4, s.Robots[0].At, 0), teHalt(1, 4, l[1].Move.To, 0))
	// An epoch on, the answers of the one ahead are nothing.
	all(t, h, opStop())
	ignores(t, h, d, teHalt(0, 4, s.Robots[0].At, 0), teHalt(1, 4, l[1].Move.To, 0))
}

// P21.4: a stop amid a lift: it is told to be done, or not.
func TestHaltOfLifts(t *testing.T) {
	c := yard()
	for _, done := range []bool{false, true} {
		h, d := within(t, c, firstOf(t, c), 0)
		all(t, h, opOrder(9, 0), opTick())
		for first(h, 0).Kind != api.Lift {
			if r := h.State().Robots[0]; r.Out {
				hears(t, h, teAck(0, 0, r.Num))
			}
			all(t, h, opTick())
		}
		for !h.State().Robots[0].Out {
			all(t, h, opTick())
		}
		p := h.State().Robots[0].At
		all(t, h, opStop())
		ignores(t, h, d, teHalt(0, 1, p, 8), teHalt(0, 1, flat(0, 2), 9))
		load := 0
		if done {
			load = 9
		}
		want := behindAll(t, c, h.State(), evHalt(0, load, p))
		hears(t, h, teHalt(0, 1, p, load))
		same(t, h.State(), want)
		ignores(t, h, d, teHalt(0, 1, p, 9-load))
		if s := h.State(); s.Robots[0].Load != load || !s.Robots[0].Stands {
			t.Fatalf("%+v", s)
		}
	}
}

// P21.4: all other kinds of telegrams: nothing.
func TestOtherTelegrams(t *testing.T) {
	c := yard()
	h, d, l := outward(t, c, 0)
	for _, held := range []bool{false, true} {
		if held {
			all(t, h, opStop())
		}
		epoch := h.State().Epoch
		for _, kind := range append(ends(), -1, 0, api.TeGo, api.TeStop, 5, 6) {
			x := teHalt(0, epoch, h.State().Robots[0].At, 0)
			x.Kind, x.Num = kind, 1
			ignores(t, h, d, x)
		}
		ignores(t, h, d, append(stops(c, epoch), l...)...)
		ignores(t, h, d, api.Tele{})
	}
}

// P21.4: an answer that fits, of a move that cannot be done by what is known: it is taken, and not waited for any more, but the event does not happen.
func TestAckOfWhatCannotBe(t *testing.T) {
	c := yard()
	s := behindAll(t, c, firstOf(t, c), evOrder(9, 0), evBegin(1))
	// It is to lift 9, over which 8 stands.
	s = turned(early(s), func(s *api.State) {
		s.Robots[0].At = flat(1, 0)
		s.Stacks[0].Bins = []int{7, 9, 8}
	})
	lift := api.Move{Kind: api.Lift, From: flat(1, 0), To: flat(1, 0), At: 0, End: c.Hoist}
	s.Robots[0].Job, s.Robots[0].Moves, s.Jobs[0].Robot = 1, []api.Move{lift}, 0
	h, d := within(t, c, s, 0)
	does(t, h, opTick(), teGo(0, 0, 1, lift))
	was, pending := h.State(), d.Pending(0)
	hears(t, h, teAck(0, 0, 1), teAck(0, 0, 1))
	same(t, h.State(), was)
	if d.Pending(0) != pending || h.Dead() {
		t.Fatal(d.Pending(0), h.Dead())
	}
	for range 3 * c.Resend {
		does(t, h, opTick())
	}
	// So with Seq at its end: the last event that there is room for is the go-ahead.
	s = early(behindAll(t, c, firstOf(t, c), evOrder(9, 0), evBegin(1)))
	s.Seq = most - 6
	h = stopped(t, c, written(t, codec.PutState(s), most-6), 0, 1)
	hears(t, h, teHalt(0, 1, c.Robots[0], 0), teHalt(1, 1, c.Robots[1], 0))
	all(t, h, opResume())
	l, _ := h.Do(opTick())
	if was = h.State(); len(l) != 1 || was.Seq != most {
		t.Fatalf("%+v, Seq %d", l, was.Seq)
	}
	hears(t, h, teAck(0, 1, 1))
	same(t, h.State(), was)
	for range 3 * c.Resend {
		does(t, h, opTick())
	}
}
