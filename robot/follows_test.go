package robot_test

import (
	"testing"

	"skep/api"
	"skep/robot"
)

// watch is what is seen of a robot from outside: where it was last, its epoch, how many go-aheads it has begun in it, the one under way.
type watch struct {
	pose         api.Pose
	epoch, begun int
	under        *api.Tele
	told         map[string]int
}

// watchOf is what is seen of a robot at first.
func watchOf(r *robot.Robot) *watch {
	return &watch{pose: r.Pose(), told: map[string]int{}}
}

// sees fails if what a call answers, and where the robot is behind it, is not what P18.5 says.
func (w *watch) sees(t *testing.T, r *robot.Robot, number int, c call, a answer) {
	t.Helper()
	if r.Epoch() < w.epoch {
		t.Fatalf("the epoch %d comes behind %d", r.Epoch(), w.epoch)
	}
	goes := c.kind == hear && c.tele.Kind == api.TeGo && c.tele.Robot == number
	if goes && c.tele.Epoch < w.epoch && a.how != robot.Refused {
		t.Fatalf("in the epoch %d it takes %+v: %+v", w.epoch, c.tele, a)
	}
	w.told[[][]string{{"", "began", "refused", "stood"}, {"", "done", "halted"}, {""}, {""}, {""}}[c.kind][a.how]]++
	switch {
	case c.kind == hear && a.how == robot.Began:
		w.begins(t, r, goes, c.tele)
	case c.kind == pass && a.how != robot.Still:
		w.ends(t, r, a)
	case r.Pose() != w.pose:
		t.Fatalf("%+v: it is at %v, was at %v", c, r.Pose(), w.pose)
	}
	if r.Epoch() > w.epoch {
		w.epoch, w.begun = r.Epoch(), 0
	}
	w.pose = r.Pose()
}

// begins fails unless a go-ahead may be begun: it is of the robot's epoch, the next one of it, and none is under way.
func (w *watch) begins(t *testing.T, r *robot.Robot, goes bool, x api.Tele) {
	t.Helper()
	if !goes || x.Epoch != w.epoch || x.Num != w.begun+1 || w.under != nil || x.Move.From != w.pose || r.Pose() != w.pose {
		t.Fatalf("it begins %+v; seen was %+v", x, w)
	}
	w.begun++
	w.under = &x
}

// ends fails unless it is the one under way that ends: done in the epoch of its go-ahead, as it was given; else halted, on its way.
func (w *watch) ends(t *testing.T, r *robot.Robot, a answer) {
	t.Helper()
	if w.under == nil || r.Pose() != a.move.To {
		t.Fatalf("it ends %+v at %v; seen was %+v", a, r.Pose(), w)
	}
	given := w.under.Move
	w.under = nil
	if a.how == robot.Done {
		if a.move != given || r.Epoch() != w.epoch {
			t.Fatalf("it has done %+v of %+v", a.move, given)
		}
		return
	}
	want := given
	if given.Kind == api.Run {
		if a.move.N < 0 || a.move.N > given.N {
			t.Fatalf("it was halted by %+v of %+v", a.move, given)
		}
		want = cutTo(given, a.move.N)
		if a.move.N < given.N {
			w.told["cut"]++
		}
	}
	if a.move != want {
		t.Fatalf("it was halted by %+v of %+v", a.move, given)
	}
}

// drawMove is any move from a pose; most of them legal, with some time.
func drawMove(luck *chance, rec *record, p api.Pose) api.Move {
	var all []api.Move
	for m := range rec.grid.Moves(p) {
		all = append(all, m)
	}
	all = append(all, lifts(p, 0), drops(p, 0))
	m := all[luck.below(len(all))]
	m.At = luck.below(4)
	m.End = m.At + 1 + luck.below(9)
	switch luck.below(24) {
	case 0:
		m.End = m.At - luck.below(3)
	case 1:
		m.N++
	case 2:
		m.To.Down = !m.To.Down
	case 3:
		m.Kind = luck.below(7)
	case 4:
		m.From = api.Pose{At: at(luck.below(6), luck.below(5)), Down: luck.below(2) == 0}
	}
	return m
}

// drawTele is any telegram; most of them such that the robot may take them.
func drawTele(luck *chance, rec *record) api.Tele {
	x := api.Tele{Kind: api.TeGo, Robot: rec.number, Epoch: rec.epoch(), Num: rec.last() + 1}
	x.Move = drawMove(luck, rec, rec.pose())
	switch luck.below(16) {
	case 0:
		x.Num--
	case 1:
		x.Num += luck.below(5) - 2
	case 2, 3:
		x.Epoch -= 1 + luck.below(3)
	case 4:
		x.Epoch++
	case 5:
		x = api.Tele{Kind: api.TeStop, Robot: rec.number, Epoch: rec.epoch() + 1 + luck.below(2)}
	case 6:
		x = api.Tele{Kind: api.TeStop, Robot: rec.number, Epoch: rec.epoch() - luck.below(2)}
	}
	switch luck.below(40) {
	case 0:
		x.Robot += 1 - 2*luck.below(2)
	case 1:
		x.Kind = luck.below(7) - 1
	}
	return x
}

// drawCall is any call; most of them are ticks.
func drawCall(luck *chance, rec *record) call {
	switch n := luck.below(30); {
	case n < 9:
		return call{kind: hear, tele: drawTele(luck, rec)}
	case n < 10:
		return call{kind: tell}
	case n < 11:
		return call{kind: late, n: luck.below(6) - 1}
	case n < 12:
		return call{kind: load, n: luck.below(5)}
	}
	return call{kind: pass}
}

// P18.5, over scripts: it moves only by go-aheads of its own epoch, each once, in order; one of an older epoch is refused for ever; and each call answers what the words say.
func TestScripts(t *testing.T) {
	var luck chance = 5
	told := map[string]int{}
	for range 1500 {
		c := yard()
		c.Accel, c.Speed = 1+luck.below(5), 1+luck.below(9)
		i := luck.below(3)
		r, rec := made(t, c, i), recordOf(c, i)
		w := watchOf(r)
		w.told = told
		for range 90 {
			x := drawCall(&luck, rec)
			w.sees(t, r, i, x, both(t, r, rec, x))
		}
	}
	for _, what := range []string{"began", "refused", "stood", "done", "halted", "cut"} {
		if told[what] < 300 {
			t.Errorf("%s came %d times: too few", what, told[what])
		}
	}
}

// P18.5: all short scripts behind the first tick of a run, telegrams that come twice, late, and in another order among them.
func TestAllShortScripts(t *testing.T) {
	c := yard()
	c.Unit, c.Accel, c.Speed = 2, 1, 1
	first := call{kind: hear, tele: goes(0, 1, runs(to(0, 0), api.East, 2, 3))}
	every := []call{
		{kind: pass}, {kind: late, n: 1}, first,
		{kind: hear, tele: goes(0, 2, lifts(to(2, 0), 1))},
		{kind: hear, tele: goes(1, 1, lifts(to(1, 0), 1))},
		{kind: hear, tele: goes(2, 1, drops(to(1, 0), 1))},
		{kind: hear, tele: stops(0)}, {kind: hear, tele: stops(1)}, {kind: hear, tele: stops(2)},
	}
	n := len(every)
	for script := range n * n * n * n * n {
		r, rec := made(t, c, 0), recordOf(c, 0)
		w := watchOf(r)
		calls := []call{first, {kind: pass}}
		for rest := script; len(calls) < 7; rest /= n {
			calls = append(calls, every[rest%n])
		}
		for _, x := range calls {
			w.sees(t, r, 0, x, both(t, r, rec, x))
		}
	}
}

// P18.5: each go-ahead of an older epoch, also one that was done once, is refused at each tick of all that comes behind.
func TestOlderIsRefusedForEver(t *testing.T) {
	r := made(t, yard(), 0)
	var old []api.Tele
	refused := func() {
		t.Helper()
		for _, x := range old {
			passes(t, r, x, robot.Refused)
		}
	}
	for epoch := range 5 {
		var own []api.Tele
		for i, m := range []api.Move{lifts(to(0, 0), 3), runs(to(0, 0), api.East, 1, 4), runs(to(1, 0), api.West, 1, 4)} {
			x := goes(epoch, i+1, m)
			own = append(own, x)
			refused()
			hears(t, r, x, robot.Began)
			for range m.End - m.At {
				refused()
				r.Tick()
			}
			refused()
			tells(t, r, acks(epoch, i+1))
		}
		old = append(old, own...)
		hears(t, r, stops(epoch+1), robot.Stood, halts(epoch+1, to(0, 0), 0))
	}
	refused()
}
