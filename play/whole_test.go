package play_test

import (
	"slices"
	"testing"

	"skep/api"
	"skep/play"
)

// The document's examples of the whole, one by one, but for the tenth.

// hearAll has all come that is under way, and what is told to it, in order.
func hearAll(t *testing.T, r *play.Run) {
	t.Helper()
	for r.Radio().Len() > 0 {
		does(t, r, opHear(0, 0))
	}
}

// until ticks, all telegrams coming in order, till something is so; it fails, if that takes too long.
func until(t *testing.T, r *play.Run, so func() bool) {
	t.Helper()
	for range 3000 {
		if so() {
			return
		}
		does(t, r, opTick())
		hearAll(t, r)
	}
	t.Fatalf("it does not come to be:\n%+v", r.State())
}

// delivered tells whether an order is.
func delivered(r *play.Run, id int) bool { return r.State().Orders[id-1].State == api.Delivered }

// Example 1: order 7, 0; tick: two jobs (Away 8, Fetch 7), a go-ahead for the robot's first move.
func TestExample1(t *testing.T) {
	r := made(t, small())
	does(t, r, opOrder(7, 0), opTick())
	s := r.State()
	if len(s.Jobs) != 2 || s.Jobs[0].Kind != api.Away || s.Jobs[0].Bin != 8 || s.Jobs[1].Kind != api.Fetch || s.Jobs[1].Bin != 7 {
		t.Fatalf("%+v", s.Jobs)
	}
	flies(t, r, teGo(0, 0, 1, s.Robots[0].Moves[0]))
}

// Example 2: a fair radio: bin 7 stands at the port; drain: a job Return; at last the robot is home.
func TestExample2(t *testing.T) {
	r := made(t, small())
	does(t, r, opOrder(7, 0))
	until(t, r, func() bool { return delivered(r, 1) })
	if l := r.World().At(at(3, 0)); !slices.Equal(l, []int{7}) || r.State().Ports[0].Bin != 7 {
		t.Fatalf("at the port: %v", l)
	}
	does(t, r, opDrain(0))
	if l := r.State().Jobs; len(l) != 1 || l[0].Kind != api.Return || l[0].Bin != 7 {
		t.Fatalf("%+v", l)
	}
	until(t, r, func() bool { return rests(small(), r.State()) })
	if p, load, _ := r.World().Robot(0); p != flat(0, 1) || load != 0 || len(r.World().At(at(3, 0))) != 0 {
		t.Fatalf("%v, %d", p, load)
	}
}

// Example 3: an order for 9: ErrBin. For 7 once more: ErrDouble. While 7 stands at the port: ErrOut.
func TestExample3(t *testing.T) {
	r := made(t, small())
	does(t, r, opOrder(7, 0))
	refuses(t, small(), r, opOrder(9, 0), api.ErrBin)
	refuses(t, small(), r, opOrder(7, 0), api.ErrDouble)
	until(t, r, func() bool { return delivered(r, 1) })
	refuses(t, small(), r, opOrder(7, 0), api.ErrOut)
}

// Example 4: a stop: TeStop for each robot; orders: ErrHeld; each robot tells TeHalt; resume: OK; ticks go on with what was begun.
func TestExample4(t *testing.T) {
	c := yard()
	r := made(t, c)
	does(t, r, opOrder(9, 0), opOrder(5, 1), opTick())
	hearAll(t, r)
	does(t, r, opTick(), opTick(), opStop())
	flies(t, r, stops(c, 1)...)
	refuses(t, c, r, opOrder(8, 0), api.ErrHeld)
	refuses(t, c, r, opResume(), api.ErrState)
	var halts int
	until(t, r, func() bool {
		s := r.State()
		halts = 0
		for _, x := range s.Robots {
			if x.Stands {
				halts++
			}
		}
		return halts == 2
	})
	// Both told where they stand; what they were at is theirs still.
	if s := r.State(); !s.Held || s.Robots[0].Job == 0 || s.Robots[1].Job == 0 {
		t.Fatalf("%+v", s)
	}
	told := len(r.Told())
	does(t, r, opResume(), opTick())
	if l := r.Told()[told:]; len(l) == 0 || l[0].Kind != api.TeGo || l[0].Epoch != 1 || l[0].Num != 1 {
		t.Fatalf("told is %+v", l)
	}
	hearAll(t, r)
	until(t, r, func() bool { return delivered(r, 1) && delivered(r, 2) })
}

// long is a config with one robot whose first move for bin 1 is a run of many cells.
func long() api.Conf {
	c := bare(12, 2)
	c.Ports = []api.Cell{at(0, 0)}
	c.Robots = []api.Pose{flat(0, 1)}
	c.Stacks = []api.Stack{pile(10, 1, 1)}
	return c
}

// Example 5: a stop while a run is under way: the run is cut to fewer cells; SeEnd has the cut run, SeHalt behind it.
func TestExample5(t *testing.T) {
	r, first := begun(t, long(), 1)
	if first.Move.Kind != api.Run || first.Move.N < 5 {
		t.Fatalf("%+v", first.Move)
	}
	does(t, r, opHear(0, 0), opTick(), opTick(), opTick(), opStop(), opHear(0, 0))
	cut, ok := r.World().Under(0)
	if !ok || cut.N >= first.Move.N || cut.N < 1 {
		t.Fatalf("%+v, %v", cut, ok)
	}
	for r.Radio().Len() == 0 {
		does(t, r, opTick())
	}
	l := seen(r, 1)
	cut.At, cut.End = first.Move.At, first.Move.End
	if len(l) != 2 || l[0] != (api.Sight{Kind: api.SeEnd, Pose: cut.To, Move: cut}) || l[1] != (api.Sight{Kind: api.SeHalt, Pose: cut.To}) {
		t.Fatalf("%+v", l)
	}
	flies(t, r, teHalt(0, 1, cut.To, 0))
	does(t, r, opHear(0, 0), opResume())
	if s := r.State(); s.Robots[0].At != cut.To || s.Held {
		t.Fatalf("%+v", s.Robots)
	}
	until(t, r, func() bool { return delivered(r, 1) })
}

// Example 6: a go-ahead of the epoch 0 that comes behind a stop: SeRefuse.
func TestExample6(t *testing.T) {
	r, first := begun(t, small(), 7)
	does(t, r, opStop())
	flies(t, r, first, teStop(0, 1))
	does(t, r, opHear(1, 0), opHear(0, 0))
	if l := seen(r, 0); len(l) != 2 || l[0].Kind != api.SeHalt || l[1] != (api.Sight{Kind: api.SeRefuse, Pose: flat(0, 1)}) {
		t.Fatalf("%+v", l)
	}
	if _, ok := r.World().Under(0); ok {
		t.Fatal("it moves")
	}
}

// Example 7: a crash ahead of the first event: the state is First, not held. Behind one: held, in the next epoch.
func TestExample7(t *testing.T) {
	r := made(t, small())
	does(t, r, opCrash(0, 0))
	same(t, r.State(), firstOf(t, small()))
	does(t, r, opOrder(7, 0), opCrash(0, 0))
	if s := r.State(); !s.Held || s.Epoch != 1 || len(s.Orders) != 1 {
		t.Fatalf("%+v", s)
	}
}

// Example 8: a telegram that is lost is told again behind Resend ticks.
func TestExample8(t *testing.T) {
	for _, n := range []int{1, 2, 20} {
		c := small()
		c.Resend = n
		r, first := begun(t, c, 7)
		does(t, r, opLose(0))
		for range n - 1 {
			does(t, r, opTick())
			flies(t, r)
		}
		does(t, r, opTick())
		flies(t, r, first)
		does(t, r, opStop(), opLose(0), opLose(0))
		for range n - 1 {
			does(t, r, opTick())
			flies(t, r)
		}
		does(t, r, opTick())
		flies(t, r, teStop(0, 1))
	}
}

// Example 9: a checkpoint turns nothing that is seen or known.
func TestExample9(t *testing.T) {
	var luck chance = 9
	for range 15 {
		c := drawConf(&luck)
		a := made(t, c)
		l, answers := drawn(&luck, c, a, 150)
		b := made(t, c)
		for i, o := range l {
			// A crash takes what no checkpoint made certain.
			if o.Kind == api.OpCrash {
				break
			}
			does(t, b, opCheck())
			if e := b.Do(o); e != answers[i] {
				t.Fatalf("%+v: error %d, want %d", o, e, answers[i])
			}
			does(t, b, opCheck())
		}
		alone := made(t, c)
		for _, o := range l {
			if o.Kind == api.OpCrash {
				break
			}
			if o.Kind != api.OpCheck {
				alone.Do(o)
			}
		}
		want := wholeOf(c, alone)
		now := wholeOf(c, b)
		// What is on the disk is another thing, but says the same.
		want.Files, want.Sure = now.Files, now.Sure
		stays(t, c, b, want)
	}
}
