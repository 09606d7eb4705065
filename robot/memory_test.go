package robot_test

import (
	"reflect"
	"slices"
	"testing"

	"skep/api"
	"skep/robot"
)

// spare is the same list in new memory, with spare room.
func spare[T any](l []T) []T {
	return append(make([]T, 0, len(l)+3), l...)
}

// deep is a config with the same in lists of its own, each with spare room.
func deep(c api.Conf) api.Conf {
	c.Blocked, c.Ports, c.Robots, c.Stacks = spare(c.Blocked), spare(c.Ports), spare(c.Robots), spare(c.Stacks)
	for i, s := range c.Stacks {
		c.Stacks[i].Bins = spare(s.Bins)
	}
	return c
}

// whole is a config with its lists' spare room laid open.
func whole(c api.Conf) api.Conf {
	c.Blocked = c.Blocked[:cap(c.Blocked)]
	c.Ports = c.Ports[:cap(c.Ports)]
	c.Robots = c.Robots[:cap(c.Robots)]
	c.Stacks = slices.Clone(c.Stacks[:cap(c.Stacks)])
	for i, s := range c.Stacks {
		c.Stacks[i].Bins = s.Bins[:cap(s.Bins)]
	}
	return c
}

// script is any calls of a robot, each of which answers what the record does.
func script(t *testing.T, luck *chance, r *robot.Robot, rec *record, n int) {
	t.Helper()
	for range n {
		both(t, r, rec, drawCall(luck, rec))
	}
}

// R3: a config stays as it is, spare room included, whether it may be or not, and whatever the robot does.
func TestConfStays(t *testing.T) {
	wrong := yard()
	wrong.Robots[2] = to(0, 0)
	var luck chance = 3
	for _, c := range []api.Conf{yard(), wrong, lane(10, 2, 4)} {
		given, kept := deep(c), whole(deep(c))
		for _, i := range []int{-1, 0, 9} {
			if r, e := robot.New(given, i); e == api.OK {
				script(t, &luck, r, recordOf(c, i), 60)
			}
		}
		if !reflect.DeepEqual(whole(given), kept) {
			t.Errorf("%+v, want %+v", whole(given), kept)
		}
	}
}

// R3: a config that is turned behind New turns no robot.
func TestConfIsNotKept(t *testing.T) {
	var luck chance = 4
	for range 50 {
		given := deep(yard())
		r := made(t, given, 0)
		for i := range given.Robots {
			given.Robots[i] = down(4, 4)
		}
		given.Blocked[0], given.Ports[0], given.Ports[1] = at(0, 1), at(1, 1), at(1, 0)
		for i := range given.Stacks {
			given.Stacks[i].At = at(9, 9)
		}
		script(t, &luck, r, recordOf(yard(), 0), 60)
	}
}

// R3: what is answered is memory of its own, spare room too: to write into it turns no robot and nothing else that was answered.
func TestAnswersAreNewMemory(t *testing.T) {
	r := made(t, yard(), 0)
	does(t, r, 1, lifts(to(0, 0), 2))
	again := goes(0, 1, lifts(to(0, 0), 2))
	answers := func() [][]api.Tele {
		heard, _ := r.Hear(again)
		more, _ := r.Hear(again)
		return [][]api.Tele{r.Tell(), heard, r.Tell(), more}
	}
	write := func(want api.Tele) {
		t.Helper()
		lists := answers()
		for i, l := range lists {
			if !slices.Equal(l, []api.Tele{want}) {
				t.Fatalf("%+v, want %+v", l, want)
			}
			for j := range l[:cap(l)] {
				l[:cap(l)][j] = api.Tele{Kind: 90 + i}
			}
		}
		for i, l := range lists {
			if l[0] != (api.Tele{Kind: 90 + i}) {
				t.Fatalf("list %d is another's too: %+v", i, l)
			}
		}
		tells(t, r, want)
	}
	write(acks(0, 1))
	first, _ := r.Hear(stops(1))
	again = stops(1)
	write(halts(1, to(0, 0), 0))
	if !slices.Equal(first, []api.Tele{halts(1, to(0, 0), 0)}) {
		t.Errorf("%+v", first)
	}
}

// R3: what was told stays as it was, whatever is done behind it.
func TestToldStays(t *testing.T) {
	r := made(t, yard(), 0)
	r.Carry(6)
	told := r.Tell()
	stood, _ := r.Hear(stops(1))
	r.Carry(7)
	does(t, r, 1, runs(to(0, 0), api.East, 1, 4))
	if told[0] != acks(0, 0) || stood[0] != halts(1, to(0, 0), 6) {
		t.Errorf("%+v, %+v", told, stood)
	}
}

// R4: two robots have nothing in common, of one config or of two, of one number or of two.
func TestNothingInCommon(t *testing.T) {
	var luck chance = 13
	for range 60 {
		other := yard()
		other.Accel, other.Speed = 1, 9
		confs := []api.Conf{yard(), yard(), other}
		numbers := []int{0, luck.below(2), 2}
		var robots []*robot.Robot
		var recs []*record
		for i, c := range confs {
			robots, recs = append(robots, made(t, c, numbers[i])), append(recs, recordOf(c, numbers[i]))
		}
		for range 40 {
			for i := range robots {
				script(t, &luck, robots[i], recs[i], 1)
			}
		}
	}
}

// R4: the same script is the same robot, over and over.
func TestSameScriptIsTheSame(t *testing.T) {
	var luck chance = 19
	for range 60 {
		r, rec := made(t, yard(), 0), recordOf(yard(), 0)
		script(t, &luck, r, rec, 60)
		again := made(t, yard(), 0)
		for i, c := range rec.calls {
			if a := do(again, c); !alike(a, rec.answers[i]) {
				t.Fatalf("call %d: %+v, was %+v", i, a, rec.answers[i])
			}
		}
		if seen(t, r) != seen(t, again) {
			t.Fatalf("%+v, was %+v", seen(t, again), seen(t, r))
		}
	}
}
