package play_test

import (
	"testing"

	"skep/api"
)

// P22.1 to P22.4: over scripts of orders, ticks, delays, telegrams that are lost, come twice and in any order, stops, resumes, checkpoints and crashes at any place each call answers what the words say, and each part is as its chapter says: what is seen can be, what is known is what is there, the state is the fold of the journal, no go-ahead is told while it is held or ahead of its event's being certain, behind each crash is a state that was passed, with all that was certain, and what is of an older epoch moves nobody.
func TestScripts(t *testing.T) {
	var luck chance = 7
	count := map[string]int{}
	for range 150 {
		c := drawConf(&luck)
		y := newShow(t, &luck, c, count)
		for range 450 {
			y.op(drawOp(&luck, c, y.r))
		}
	}
	for what, least := range map[string]int{
		"op 1 ok": 20000, "op 2 ok": 300, "op 2 held": 300, "op 2 bin": 200, "op 2 port": 200, "op 2 double": 300, "op 2 out": 80, "op 2 full": 300,
		"op 3 ok": 60, "op 3 held": 100, "op 3 port": 80, "op 3 none": 100, "op 3 state": 100, "op 4 ok": 150, "op 5 ok": 200, "op 5 state": 300,
		"op 6 ok": 5000, "op 6 none": 500, "op 6 argument": 50, "op 7 ok": 300, "op 7 none": 300, "op 8 ok": 300, "op 8 argument": 300, "op 9 ok": 200, "op 10 ok": 200,
		"op 0 operation": 80, "op 11 operation": 80, "go": 2000, "left": 200, "to a robot 1": 2000, "to a robot 2": 500,
		"seen 1": 1000, "seen 2": 1000, "seen 3": 300, "seen 4": 150, "seen 5": 120, "seen 6": 80, "seen 7": 30,
	} {
		if count[what] < least {
			t.Errorf("%s: %d, of %v", what, count[what], count)
		}
	}
}

// What follows of all: a run that is left in peace, trouble behind it or not, delivers what was ordered, each once, brings it back, and comes to rest.
func TestAllIsDelivered(t *testing.T) {
	var luck chance = 11
	count := map[string]int{}
	lone := yard()
	lone.Robots = lone.Robots[:1]
	for _, c := range []api.Conf{small(), lone, yard()} {
		for i := range 8 {
			c.Back = i%2 == 0
			y := newShow(t, &luck, c, count)
			for range 25 * i {
				// Two robots that were stopped in each other's way might stay there for good.
				if len(c.Robots) > 1 {
					y.op(opTick())
				} else {
					y.op(drawOp(&luck, c, y.r))
				}
			}
			for _, l := range c.Stacks {
				for _, bin := range l.Bins {
					y.op(opOrder(bin, -1))
				}
			}
			y.calm()
			y.once()
		}
	}
	if count["op 2 ok"] < 50 || count["op 4 ok"] < 6 || count["op 9 ok"] < 6 {
		t.Errorf("%v", count)
	}
}

// P22.4: what is done to the radio turns what happens, never what may not: telegrams in any order, each many times, or lost time and again.
func TestWildRadio(t *testing.T) {
	var luck chance = 12
	count := map[string]int{}
	for n := range 60 {
		c := drawConf(&luck)
		y := newShow(t, &luck, c, count)
		for i := range 300 {
			switch {
			case i%150 == 70:
				y.op(opStop())
			case i%150 > 80 && y.r.State().Held && luck.below(4) == 0:
				y.op(opResume())
			case i%20 == 3:
				y.op(opOrder(1+luck.below(bins(c)+1), -1))
			case i%3 == 0:
				y.op(opTick())
			case i%17 == 0 && n%2 == 0:
				y.op(opLose(luck.below(1000)))
			default:
				// Nothing is ever forgotten, in half of the runs.
				y.op(opHear(luck.below(1000), n%2))
			}
		}
	}
	for what, least := range map[string]int{"to a robot 1": 800, "to a robot 2": 500, "seen 1": 300, "seen 7": 100, "seen 3": 50} {
		if count[what] < least {
			t.Errorf("%s: %d, of %v", what, count[what], count)
		}
	}
}
