package hive_test

import (
	"slices"
	"testing"

	"skep/api"
	"skep/codec"
	"skep/disk"
	"skep/hive"
)

// first is the move that a robot is to do next.
func first(h *hive.Hive, robot int) api.Move {
	return h.State().Robots[robot].Moves[0]
}

// all: a hive that takes each of these, whatever it tells.
func all(t *testing.T, h *hive.Hive, l ...api.Op) {
	t.Helper()
	for _, o := range l {
		if _, e := h.Do(o); e != api.OK {
			t.Fatalf("%+v: error %d", o, e)
		}
	}
}

// certain fails unless just these are the journal's last events, and certain.
func certain(t *testing.T, c api.Conf, d *disk.Disk, want ...api.Event) {
	t.Helper()
	if d.Pending(0) != 0 || d.Pending(1) != 0 {
		t.Fatalf("%d, %d pending", d.Pending(0), d.Pending(1))
	}
	if _, l := events(t, c, d); len(l) < len(want) {
		t.Fatalf("%+v, want %+v", l, want)
	} else {
		same(t, l[len(l)-len(want):], want)
	}
}

// The chapter's example, and DOC.md's first: New over a new disk, OpOrder: OK, no telegrams; OpTick: TeGo of robot 0's first move.
func TestExamples(t *testing.T) {
	c, d := small(), disk.New()
	h := made(t, c, d, 0)
	does(t, h, opOrder(7, 0))
	certain(t, c, d, evOrder(7, 0))
	l, e := h.Do(opTick())
	s := h.State()
	if e != api.OK || len(l) != 1 || l[0] != teGo(0, 0, 1, s.Robots[0].Moves[0]) {
		t.Fatalf("error %d, %+v", e, l)
	}
	same(t, s.Jobs, []api.Job{
		{ID: 1, Kind: api.Away, Order: 1, Bin: 8, From: at(1, 0), To: at(0, 0), Robot: 0},
		{ID: 2, Kind: api.Fetch, Order: 1, Bin: 7, From: at(1, 0), To: at(3, 0), Robot: -1},
	})
	certain(t, c, d, evOrder(7, 0), evBegin(1), evPlan(0, 1, s.Robots[0].Moves), evGo(0))
	refuses(t, h, d, opOrder(9, 0), api.ErrBin)
	refuses(t, h, d, opOrder(7, 0), api.ErrDouble)
}

// P21.2: OpOrder: at a port, at any, where the fewest wait; the event has the port.
func TestOrder(t *testing.T) {
	c, d := yard(), disk.New()
	h := made(t, c, d, 0)
	s := h.State()
	for i, x := range []struct{ bin, port, want int }{{9, 1, 1}, {5, -1, 0}, {3, -1, 0}, {4, -1, 1}} {
		does(t, h, opOrder(x.bin, x.port))
		certain(t, c, d, evOrder(x.bin, x.want))
		s = behindAll(t, c, s, evOrder(x.bin, x.want))
		same(t, h.State(), s)
		if o := s.Orders[i]; o.Bin != x.bin || o.Port != x.want {
			t.Fatalf("%+v", o)
		}
	}
	if h.Now() != 0 {
		t.Fatal("time went by")
	}
}

// P21.2: OpOrder's errors are the book's.
func TestOrderRefused(t *testing.T) {
	c := yard()
	h, d := within(t, c, turned(firstOf(t, c), func(s *api.State) { s.Stacks[0].Bins, s.Ports[1].Bin = []int{7, 8}, 9 }), 0)
	for _, port := range append(ends(), -1, 0, 1, -2, 2) {
		refuses(t, h, d, opOrder(6, port), api.ErrBin)
		refuses(t, h, d, opOrder(0, port), api.ErrBin)
		refuses(t, h, d, opOrder(-1, port), api.ErrBin)
		if port < -1 || port > 1 {
			refuses(t, h, d, opOrder(7, port), api.ErrPort)
		}
	}
	refuses(t, h, d, opOrder(9, 0), api.ErrOut)
	refuses(t, h, d, opOrder(9, -1), api.ErrOut)
	all(t, h, opOrder(7, 0), opOrder(8, 0))
	refuses(t, h, d, opOrder(7, 1), api.ErrDouble)
	refuses(t, h, d, opOrder(5, 0), api.ErrFull)
	all(t, h, opOrder(5, 1), opOrder(4, -1))
	refuses(t, h, d, opOrder(3, -1), api.ErrFull)
	all(t, h, opStop())
	for _, bin := range []int{3, 6, 7} {
		refuses(t, h, d, opOrder(bin, 0), api.ErrHeld)
		refuses(t, h, d, opOrder(bin, 9), api.ErrHeld)
	}
	// No port at all; no order more.
	h, d = within(t, bare(1, 1), firstOf(t, bare(1, 1)), 0)
	refuses(t, h, d, opOrder(1, -1), api.ErrBin)
	many := turned(firstOf(t, unmanned()), func(s *api.State) {
		for i := range api.MaxOrders {
			s.Orders = append(s.Orders, api.Order{ID: i + 1, Bin: 4, State: api.Delivered})
		}
		s.NextOrder = api.MaxOrders + 1
	})
	h, d = within(t, unmanned(), many, 0)
	refuses(t, h, d, opOrder(4, 0), api.ErrFull)
	refuses(t, h, d, opOrder(4, -1), api.ErrFull)
}

// P21.2: OpDrain: the job is there; and the book's errors.
func TestDrain(t *testing.T) {
	c := yard()
	s := turned(firstOf(t, c), func(s *api.State) { s.Stacks[0].Bins, s.Ports[1].Bin = []int{7, 8}, 9 })
	h, d := within(t, c, s, 0)
	for _, port := range append(ends(), -1, 2) {
		refuses(t, h, d, opDrain(port), api.ErrPort)
	}
	refuses(t, h, d, opDrain(0), api.ErrNone)
	does(t, h, api.Op{Kind: api.OpDrain, A: 1, B: 77})
	certain(t, c, d, evDrain(1))
	same(t, h.State().Jobs, []api.Job{{ID: 1, Kind: api.Return, Bin: 9, From: at(4, 0), To: at(3, 0), Robot: -1}})
	refuses(t, h, d, opDrain(1), api.ErrState)
	all(t, h, opStop())
	for port := -1; port < 3; port++ {
		refuses(t, h, d, opDrain(port), api.ErrHeld)
	}
	// All stacks are full but one, at which somebody works.
	c = bare(3, 2)
	c.Height, c.Ports, c.Robots = 1, []api.Cell{at(0, 0)}, []api.Pose{down(1, 0)}
	c.Stacks = []api.Stack{pile(2, 0, 2), pile(0, 1, 3)}
	h, d = within(t, c, turned(firstOf(t, c), func(s *api.State) {
		s.Ports[0].Bin, s.Stacks[0].Bins = 2, nil
		s.Jobs, s.NextJob = []api.Job{{ID: 1, Kind: api.Return, Bin: 3, From: at(0, 1), To: at(2, 0), Robot: -1}}, 2
	}), 0)
	refuses(t, h, d, opDrain(0), api.ErrRoom)
}

// P21.2: OpStop: a new epoch each time; all are told; what waited for an answer does not any more.
func TestStop(t *testing.T) {
	c, d := yard(), disk.New()
	h := made(t, c, d, 0)
	all(t, h, opOrder(9, 0), opOrder(5, 1))
	l, _ := h.Do(opTick())
	if len(l) != 2 {
		t.Fatalf("%+v", l)
	}
	was := h.State()
	does(t, h, api.Op{Kind: api.OpStop, A: 5, B: -5}, stops(c, 1)...)
	certain(t, c, d, evStop())
	s := behindAll(t, c, was, evStop())
	same(t, h.State(), s)
	// Told again Resend ticks behind the stop, and no go-ahead with it.
	for range 3 {
		for range c.Resend - 1 {
			does(t, h, opTick())
		}
		does(t, h, opTick(), stops(c, 1)...)
	}
	all(t, h, opTick(), opTick())
	does(t, h, opStop(), stops(c, 2)...)
	same(t, h.State(), behindAll(t, c, s, evStop()))
	hears(t, h, teHalt(0, 2, c.Robots[0], 0))
	for range c.Resend - 1 {
		does(t, h, opTick())
	}
	does(t, h, opTick(), teStop(1, 2))
	// Who stood does not any more, and is told too.
	does(t, h, opStop(), stops(c, 3)...)
	if s := h.State(); s.Robots[0].Stands || s.Epoch != 3 {
		t.Fatalf("%+v", s)
	}
	h = made(t, unmanned(), disk.New(), 0)
	does(t, h, opStop())
	if !h.State().Held {
		t.Fatal("not held")
	}
}

// P21.2: OpResume: only if all stand; and what Apply answers else.
func TestResume(t *testing.T) {
	c, d := yard(), disk.New()
	h := made(t, c, d, 0)
	refuses(t, h, d, opResume(), api.ErrState)
	all(t, h, opStop())
	refuses(t, h, d, opResume(), api.ErrState)
	hears(t, h, teHalt(1, 1, c.Robots[1], 0))
	refuses(t, h, d, opResume(), api.ErrState)
	hears(t, h, teHalt(0, 1, c.Robots[0], 0))
	does(t, h, api.Op{Kind: api.OpResume, A: 9, B: 9})
	certain(t, c, d, evStop(), evHalt(1, 0, c.Robots[1]), evHalt(0, 0, c.Robots[0]), evResume())
	if s := h.State(); s.Held || s.Epoch != 1 {
		t.Fatalf("%+v", s)
	}
	refuses(t, h, d, opResume(), api.ErrState)
	does(t, h, opOrder(9, 0))
}

// P21.2: OpCheck: the state takes the place of the journal, and of no event; nothing that is known is turned.
func TestCheck(t *testing.T) {
	c, d := yard(), disk.New()
	h := made(t, c, d, 0)
	all(t, h, opOrder(9, 0), opTick())
	hears(t, h, teAck(0, 0, 1))
	was := h.State()
	does(t, h, api.Op{Kind: api.OpCheck, A: 3, B: 4})
	same(t, h.State(), was)
	s, l := events(t, c, d)
	same(t, s, was)
	if len(l) != 0 || d.Size(0) != 0 || d.Pending(0)+d.Pending(1) != 0 || h.Now() != 1 {
		t.Fatalf("%+v, %d bytes, %d pending, now %d", l, d.Size(0), d.Pending(1), h.Now())
	}
	// It goes on behind it: held too, and over and over.
	all(t, h, opStop(), opCheck(), opCheck())
	s, l = events(t, c, d)
	same(t, s, behindAll(t, c, was, evStop()))
	hears(t, h, teHalt(1, 1, c.Robots[1], 0))
	if s, l = events(t, c, d); len(l) != 1 || s.Seq != was.Seq+1 {
		t.Fatalf("%+v", l)
	}
	same(t, stopped(t, c, allOf(d), 0, 2).State(), behindAll(t, c, h.State(), evStop()))
}

// great is a state of so many bytes.
func great(t *testing.T, c api.Conf, size int) api.State {
	t.Helper()
	s := firstOf(t, c)
	s.NextJob = most
	// Bins are brought back over and over, by nobody; of one job more the record would be too long.
	for len(codec.PutState(s)) <= size-20 {
		for range max(1, (size-20-len(codec.PutState(s)))/12) {
			s.Jobs = append(s.Jobs, api.Job{ID: len(s.Jobs) + 1, Kind: api.Return, Bin: 4, From: at(0, 0), To: at(1, 0), Robot: -1})
		}
	}
	// A greater bin takes a byte more.
	for i := range size - len(codec.PutState(s)) {
		s.Jobs[i].Bin = 500
	}
	if len(codec.PutState(s)) != size {
		t.Fatal(len(codec.PutState(s)), size)
	}
	return s
}

// P21.2: OpCheck's error: a state that no record has room for; with just as much as there is room it is taken.
func TestCheckOfGreatStates(t *testing.T) {
	c := unmanned()
	c.Stacks[0].Bins = []int{4, 500}
	for over := -3; over <= 3; over++ {
		// The order takes six bytes more, the head's numbers two.
		h, d := within(t, c, great(t, c, api.MaxRecord+over-8), 0)
		does(t, h, opOrder(500, 0))
		if n := len(numbered(codec.PutState(h.State()), 2, 1)); n != api.MaxRecord+over {
			t.Fatal(n, over)
		}
		if over > 0 {
			refuses(t, h, d, opCheck(), api.ErrArg)
			does(t, h, opStop())
			continue
		}
		was := h.State()
		does(t, h, opCheck())
		same(t, h.State(), was)
		same(t, stopped(t, c, d.Crash(0, 0), 0, 1).State(), behindAll(t, c, was, evStop()))
	}
}

// P21.2: any other kind: ErrOp.
func TestOtherKinds(t *testing.T) {
	c, d := yard(), disk.New()
	h := made(t, c, d, 0)
	all(t, h, opOrder(9, 0), opTick())
	for _, held := range []bool{false, true} {
		if held {
			all(t, h, opStop())
		}
		for _, kind := range append(ends(), -2, -1, 0, api.OpHear, api.OpLose, api.OpDelay, api.OpCrash, 11, 12, 99) {
			for _, a := range []int{0, 1, -1, 9} {
				refuses(t, h, d, api.Op{Kind: kind, A: a, B: a}, api.ErrOp)
			}
		}
	}
}

// P21.2: OpTick: the time is one more, held or not, at most MaxTicks; what is not answered is told again Resend ticks behind, behind what work tells.
func TestTick(t *testing.T) {
	c, d := yard(), disk.New()
	c.Resend = 7
	h := made(t, c, d, 40)
	all(t, h, opOrder(9, 0))
	l, _ := h.Do(api.Op{Kind: api.OpTick, A: 5, B: 9})
	if len(l) != 1 || l[0].Robot != 0 || h.Now() != 41 {
		t.Fatalf("%+v, now %d", l, h.Now())
	}
	for i := range 6 {
		does(t, h, opTick())
		if h.Now() != 42+i {
			t.Fatal(h.Now())
		}
	}
	// In the tick in which the one is due the other begins: that is told first, though its number is the greater.
	all(t, h, opOrder(5, 1))
	more, _ := h.Do(opTick())
	if len(more) != 2 || more[0].Robot != 1 || more[0].Kind != api.TeGo || more[1] != l[0] {
		t.Fatalf("%+v", more)
	}
	all(t, h, opStop())
	now := h.Now()
	for i := range 6 {
		does(t, h, opTick())
		if h.Now() != now+i+1 {
			t.Fatal(h.Now())
		}
	}
	does(t, h, opTick(), stops(c, 1)...)
}

// P21.2: time ends at MaxTicks: all goes on but the time, and nothing more comes to be due.
func TestTickAtTheEndOfTime(t *testing.T) {
	c := yard()
	c.Resend = 3
	h := made(t, c, disk.New(), api.MaxTicks-2)
	all(t, h, opTick())
	if h.Now() != api.MaxTicks-1 {
		t.Fatal(h.Now())
	}
	all(t, h, opOrder(9, 0))
	l, e := h.Do(opTick())
	if e != api.OK || h.Now() != api.MaxTicks || len(l) != 1 || l[0].Move.At != api.MaxTicks {
		t.Fatalf("error %d, now %d, %+v", e, h.Now(), l)
	}
	for range 9 {
		does(t, h, opTick())
		if h.Now() != api.MaxTicks {
			t.Fatal(h.Now())
		}
	}
	// What was sent ahead of the end is told there once more.
	c.Resend = 1
	h = made(t, c, disk.New(), api.MaxTicks-2)
	all(t, h, opStop())
	does(t, h, opTick(), stops(c, 1)...)
	does(t, h, opTick(), stops(c, 1)...)
	does(t, h, opTick())
}

// P21.2: behind the book's errors the event's own: Seq, Epoch, Num and NextJob at their ends.
func TestNumbersAtTheirEnds(t *testing.T) {
	c := unmanned()
	s := turned(firstOf(t, c), func(s *api.State) { s.Seq, s.Epoch = most-1, 5 })
	d := written(t, codec.PutState(s), most-1)
	h := stopped(t, c, d, 0, 6)
	// Held, and no event more can be.
	refuses(t, h, d, opOrder(4, 0), api.ErrHeld)
	refuses(t, h, d, opDrain(0), api.ErrHeld)
	refuses(t, h, d, opStop(), api.ErrFull)
	refuses(t, h, d, opResume(), api.ErrFull)
	does(t, h, opCheck())
	s.Seq = most - 2
	d = written(t, codec.PutState(s), most-2)
	h = stopped(t, c, d, 0, 6)
	all(t, h, opResume())
	refuses(t, h, d, opOrder(9, 0), api.ErrBin)
	refuses(t, h, d, opOrder(4, 1), api.ErrPort)
	refuses(t, h, d, opOrder(4, 0), api.ErrFull)
	refuses(t, h, d, opOrder(4, -1), api.ErrFull)
	refuses(t, h, d, opDrain(0), api.ErrNone)
	refuses(t, h, d, opResume(), api.ErrFull)
	for range 30 {
		does(t, h, opTick())
	}
	// An Epoch at its end: the stop is refused, and what waits is told again all the same.
	c = yard()
	h, d = within(t, c, turned(firstOf(t, c), func(s *api.State) { s.Epoch = most }), 0)
	all(t, h, opOrder(9, 0))
	l, _ := h.Do(opTick())
	refuses(t, h, d, opStop(), api.ErrFull)
	for range c.Resend - 1 {
		does(t, h, opTick())
	}
	does(t, h, opTick(), l...)
	// NextJob at its end.
	h, d = within(t, c, turned(firstOf(t, c), func(s *api.State) {
		s.NextJob, s.Stacks[0].Bins, s.Ports[1].Bin = most, []int{7, 8}, 9
	}), 0)
	refuses(t, h, d, opDrain(0), api.ErrNone)
	refuses(t, h, d, opDrain(1), api.ErrFull)
	all(t, h, opOrder(8, 0))
	does(t, h, opTick())
	if o := h.State().Orders[0]; o.State != api.Waiting {
		t.Fatalf("%+v", o)
	}
}

// P21.2: the events of a call are certain at its end, those of Hear with the next that happen.
func TestCertain(t *testing.T) {
	c, d := yard(), disk.New()
	h := made(t, c, d, 0)
	all(t, h, opOrder(9, 0), opTick())
	certain(t, c, d, evGo(0))
	hears(t, h, teAck(0, 0, 1))
	record := 8 + len(numbered(codec.PutEvent(evDone(0)), h.State().Seq))
	if d.Pending(0) != record || d.Pending(1) != 0 {
		t.Fatalf("%d, %d pending, want %d", d.Pending(0), d.Pending(1), record)
	}
	// No event happens, so that nothing need be certain: refused ones, and ticks in which nothing can be done.
	refuses(t, h, d, opOrder(9, 0), api.ErrDouble)
	refuses(t, h, d, opResume(), api.ErrState)
	if m := first(h, 0); m.At <= h.Now()+1 {
		t.Fatalf("%+v", m)
	}
	does(t, h, opTick())
	if d.Pending(0) != record {
		t.Fatalf("%d pending, want %d", d.Pending(0), record)
	}
	all(t, h, opOrder(5, 0))
	certain(t, c, d, evDone(0), evOrder(5, 0))
	for !slices.ContainsFunc(h.State().Robots, func(r api.Robot) bool { return r.Out }) {
		all(t, h, opTick())
	}
	hears(t, h, teAck(0, 0, 2))
	if d.Pending(0) == 0 {
		t.Fatal("certain too soon")
	}
	all(t, h, opStop())
	certain(t, c, d, evDone(0), evStop())
}
