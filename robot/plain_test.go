package robot_test

import (
	"math"
	"slices"
	"testing"

	"skep/api"
	"skep/grid"
	"skep/kinem"
	"skep/robot"
)

// end is the tick at which all time ends.
const end = api.Forever

// chance is numbers that look like any, the same at each run.
type chance uint64

func (c *chance) below(n int) int {
	*c = *c*6364136223846793005 + 1442695040888963407
	return int(uint64(*c)>>33) % n
}

// ends is numbers near the ends of their range, and near powers of two.
func ends() []int {
	out := []int{math.MinInt, math.MinInt + 1, math.MaxInt - 1, math.MaxInt}
	for _, i := range []int{8, 16, 31, 32, 61, 62} {
		out = append(out, 1<<i, 1<<i+1, -1<<i, -1<<i-1)
	}
	return out
}

// at is a cell; to is a pose to the east of it, down is one to the south.
func at(x, y int) api.Cell   { return api.Cell{X: x, Y: y} }
func to(x, y int) api.Pose   { return api.Pose{At: at(x, y)} }
func down(x, y int) api.Pose { return api.Pose{At: at(x, y), Down: true} }

// yard is a config of three robots, with some of everything.
func yard() api.Conf {
	return api.Conf{
		W: 6, H: 5, Height: 3, Unit: 10, Accel: 2, Speed: 4, Turn: 5, Hoist: 6, Queue: 4, Resend: 20, Budget: 500,
		Blocked: []api.Cell{at(3, 2)}, Ports: []api.Cell{at(0, 4), at(5, 0)},
		Robots: []api.Pose{to(0, 0), down(5, 2), to(2, 4)},
		Stacks: []api.Stack{{At: at(2, 1), Bins: []int{7, 8}}, {At: at(0, 2), Bins: []int{5}}},
	}
}

// lane is a config of one robot, that has a row of the longest side for itself, and goes as these numbers say.
func lane(unit, accel, speed int) api.Conf {
	return api.Conf{
		W: 16, H: 2, Height: 1, Unit: unit, Accel: accel, Speed: speed, Turn: 5, Hoist: 6, Queue: 1, Resend: 1, Budget: 1,
		Robots: []api.Pose{to(0, 0)},
	}
}

// made is a config's robot; it fails, if there is none.
func made(t *testing.T, c api.Conf, i int) *robot.Robot {
	t.Helper()
	r, e := robot.New(c, i)
	if r == nil || e != api.OK {
		t.Fatalf("New of %d: %v, error %d", i, r, e)
	}
	return r
}

// shifted is a pose so many cells further in a direction.
func shifted(p api.Pose, dir, n int) api.Pose {
	steps := []api.Cell{at(0, -1), at(1, 0), at(0, 1), at(-1, 0)}
	p.At.X += n * steps[dir].X
	p.At.Y += n * steps[dir].Y
	return p
}

// runs, turns, lifts and drops are moves from a pose that take so many ticks.
func runs(p api.Pose, dir, n, ticks int) api.Move {
	return api.Move{Kind: api.Run, Dir: dir, N: n, From: p, To: shifted(p, dir, n), At: 50, End: 50 + ticks}
}
func turns(p api.Pose, ticks int) api.Move {
	return api.Move{Kind: api.Turn, From: p, To: api.Pose{At: p.At, Down: !p.Down}, At: 50, End: 50 + ticks}
}
func lifts(p api.Pose, ticks int) api.Move {
	return api.Move{Kind: api.Lift, From: p, To: p, At: 50, End: 50 + ticks}
}
func drops(p api.Pose, ticks int) api.Move {
	return api.Move{Kind: api.Drop, From: p, To: p, At: 50, End: 50 + ticks}
}

// goes is a go-ahead for robot 0.
func goes(epoch, num int, m api.Move) api.Tele {
	return api.Tele{Kind: api.TeGo, Epoch: epoch, Num: num, Move: m}
}

// stops is a stop for robot 0.
func stops(epoch int) api.Tele {
	return api.Tele{Kind: api.TeStop, Epoch: epoch}
}

// acks is how robot 0 tells that it has done a go-ahead.
func acks(epoch, num int) api.Tele {
	return api.Tele{Kind: api.TeAck, Epoch: epoch, Num: num}
}

// halts is how robot 0 tells that it stands.
func halts(epoch int, p api.Pose, load int) api.Tele {
	return api.Tele{Kind: api.TeHalt, Epoch: epoch, Pose: p, Load: load}
}

// look is all that can be seen of a robot without turning it.
type look struct {
	pose        api.Pose
	load, epoch int
	now         api.Move
	under       bool
	tells       api.Tele
}

// seen is how a robot looks; it fails, if it tells other than one telegram.
func seen(t *testing.T, r *robot.Robot) look {
	t.Helper()
	l := look{pose: r.Pose(), load: r.Load(), epoch: r.Epoch()}
	l.now, l.under = r.Now()
	told := r.Tell()
	if len(told) != 1 {
		t.Fatalf("Tell: %+v", told)
	}
	l.tells = told[0]
	return l
}

// hears fails unless a telegram is taken so, with just these answers.
func hears(t *testing.T, r *robot.Robot, x api.Tele, how int, want ...api.Tele) {
	t.Helper()
	if got, h := r.Hear(x); h != how || !slices.Equal(got, want) {
		t.Fatalf("Hear of %+v: %+v, %d, want %+v, %d", x, got, h, want, how)
	}
}

// passes fails unless a telegram is taken so, without an answer, and turns nothing.
func passes(t *testing.T, r *robot.Robot, x api.Tele, how int) {
	t.Helper()
	was := seen(t, r)
	hears(t, r, x, how)
	if got := seen(t, r); got != was {
		t.Fatalf("Hear of %+v: it is %+v, was %+v", x, got, was)
	}
}

// rests fails unless so many ticks go by in which nothing ends.
func rests(t *testing.T, r *robot.Robot, ticks int) {
	t.Helper()
	for i := range ticks {
		if m, how := r.Tick(); m != (api.Move{}) || how != robot.Still {
			t.Fatalf("tick %d: %+v, %d, want none, Still", i+1, m, how)
		}
	}
}

// ticksTo fails unless the move under way ends so in just so many ticks; behind it nothing is under way.
func ticksTo(t *testing.T, r *robot.Robot, ticks, how int, want api.Move) {
	t.Helper()
	p := r.Pose()
	for range ticks - 1 {
		rests(t, r, 1)
		if m, ok := r.Now(); !ok || m != want || r.Pose() != p {
			t.Fatalf("under way: %+v, %v at %v, want %+v at %v", m, ok, r.Pose(), want, p)
		}
	}
	if m, h := r.Tick(); m != want || h != how {
		t.Fatalf("tick %d: %+v, %d, want %+v, %d", ticks, m, h, want, how)
	}
	if m, ok := r.Now(); ok || m != (api.Move{}) || r.Pose() != want.To {
		t.Fatalf("behind the end: %+v, %v at %v, want none at %v", m, ok, r.Pose(), want.To)
	}
}

// does has robot 0 begin a move and fails unless it does it.
func does(t *testing.T, r *robot.Robot, num int, m api.Move) {
	t.Helper()
	hears(t, r, goes(r.Epoch(), num, m), robot.Began)
	ticksTo(t, r, m.End-m.At, robot.Done, m)
}

// tells fails unless a robot tells just this.
func tells(t *testing.T, r *robot.Robot, want api.Tele) {
	t.Helper()
	if got := r.Tell(); !slices.Equal(got, []api.Tele{want}) {
		t.Fatalf("Tell: %+v, want %+v", got, want)
	}
}

// Kinds of calls.
const (
	hear = iota
	pass
	tell
	late
	load
)

// call is one that is asked of a robot.
type call struct {
	kind, n int
	tele    api.Tele
}

// answer is what a call answers, whichever it is.
type answer struct {
	teles []api.Tele
	how   int
	move  api.Move
}

// alike tells whether two answers are the same.
func alike(a, b answer) bool {
	return a.how == b.how && a.move == b.move && slices.Equal(a.teles, b.teles)
}

// do is what a robot answers.
func do(r *robot.Robot, c call) answer {
	var a answer
	switch c.kind {
	case hear:
		a.teles, a.how = r.Hear(c.tele)
	case pass:
		a.move, a.how = r.Tick()
	case tell:
		a.teles = r.Tell()
	case late:
		r.Delay(c.n)
	case load:
		r.Carry(c.n)
	}
	return a
}

// record is the chapter's words done plainly: it keeps nothing but the calls and what had to be answered, and reads anew from these how the robot is.
type record struct {
	number  int
	home    api.Pose
	grid    *grid.Grid
	kin     *kinem.Kin
	calls   []call
	answers []answer
}

// recordOf is the record of a config's robot to whom nothing has happened.
func recordOf(c api.Conf, i int) *record {
	g, _ := grid.New(c)
	k, _ := kinem.New(c.Unit, c.Accel, c.Speed)
	return &record{number: i, home: c.Robots[i], grid: g, kin: k}
}

// epochs is the robot's epoch behind each call.
func (r *record) epochs() []int {
	var out []int
	epoch := 0
	for _, c := range r.calls {
		if c.kind == hear && c.tele.Robot == r.number && c.tele.Kind == api.TeStop {
			epoch = max(epoch, c.tele.Epoch)
		}
		out = append(out, epoch)
	}
	return out
}

// epoch is the robot's.
func (r *record) epoch() int {
	if len(r.calls) == 0 {
		return 0
	}
	return slices.Max(r.epochs())
}

// last is how many moves were done since the epoch began.
func (r *record) last() int {
	done := 0
	epochs := r.epochs()
	for i, c := range r.calls {
		if c.kind == pass && r.answers[i].how == robot.Done && epochs[i] == r.epoch() {
			done++
		}
	}
	return done
}

// pose is where the last move that ended has led.
func (r *record) pose() api.Pose {
	p := r.home
	for i, c := range r.calls {
		if c.kind == pass && r.answers[i].how != robot.Still {
			p = r.answers[i].move.To
		}
	}
	return p
}

// load is what was carried last.
func (r *record) load() int {
	n := 0
	for _, c := range r.calls {
		if c.kind == load {
			n = c.n
		}
	}
	return n
}

// begun is the call by which the move under way was begun; -1, if there is none.
func (r *record) begun() int {
	begun := -1
	for i, c := range r.calls {
		switch {
		case c.kind == hear && r.answers[i].how == robot.Began:
			begun = i
		case c.kind == pass && r.answers[i].how != robot.Still:
			begun = -1
		}
	}
	return begun
}

// course is how a move under way goes: the move, how many ticks it has been going and how many it takes, by how many it is delayed, whether the robot is stopping.
type course struct {
	move            api.Move
	gone, all, late int
	stopping        bool
}

// course is how the move under way goes, and whether there is one.
func (r *record) course() (course, bool) {
	begun := r.begun()
	if begun < 0 {
		return course{}, false
	}
	epochs := r.epochs()
	m := r.calls[begun].tele.Move
	w := course{move: m, all: less(m.End, m.At)}
	for i, c := range r.calls[begun+1:] {
		switch {
		case c.kind == pass && w.late > 0:
			w.late--
		case c.kind == pass:
			w.gone++
		case c.kind == late && c.n > 0:
			w.late = min(1000000, w.late+min(c.n, 1000000))
		case c.kind == hear && epochs[begun+1+i] > epochs[begun+i] && !w.stopping:
			w.stopping = true
			if m.Kind == api.Run {
				cells, more := r.kin.Stop(m.N, w.gone)
				w.move.N, w.move.To = cells, shifted(m.From, m.Dir, cells)
				w.all = w.gone + max(1, more)
			}
		}
	}
	return w, true
}

// less is a less b, as chapter 1 has it.
func less(a, b int) int {
	if a >= end {
		return end
	}
	return max(0, max(0, a)-min(max(0, b), end))
}

// tells is what the robot must tell.
func (r *record) tells() []api.Tele {
	if r.epoch() > 0 && r.last() == 0 {
		return []api.Tele{{Kind: api.TeHalt, Robot: r.number, Epoch: r.epoch(), Pose: r.pose(), Load: r.load()}}
	}
	return []api.Tele{{Kind: api.TeAck, Robot: r.number, Epoch: r.epoch(), Num: r.last()}}
}

// do is what must be answered; the call is written down.
func (r *record) do(c call) answer {
	var a answer
	switch c.kind {
	case hear:
		a = r.hear(c.tele)
	case pass:
		if w, ok := r.course(); ok && w.late == 0 && w.gone+1 == w.all {
			a.move, a.how = w.move, robot.Done
			if w.stopping {
				a.how = robot.Halted
			}
		}
	case tell:
		a.teles = r.tells()
	}
	r.calls, r.answers = append(r.calls, c), append(r.answers, a)
	return a
}

// hear is what must be answered to a telegram.
func (r *record) hear(x api.Tele) answer {
	epoch, last := r.epoch(), r.last()
	_, under := r.course()
	goes := x.Robot == r.number && x.Kind == api.TeGo
	stops := x.Robot == r.number && x.Kind == api.TeStop
	switch {
	case goes && x.Epoch < epoch:
		return answer{how: robot.Refused}
	case goes && x.Epoch > epoch, goes && under:
		return answer{}
	case goes && x.Num == last && last > 0:
		return answer{teles: r.tells()}
	case goes && x.Num == last+1 && x.Move.From == r.pose() && r.grid.Legal(x.Move) && less(x.Move.End, x.Move.At) > 0:
		return answer{how: robot.Began}
	case stops && x.Epoch == epoch && epoch > 0 && !under && last == 0:
		return answer{teles: r.tells()}
	case stops && x.Epoch > epoch && !under:
		return answer{teles: []api.Tele{{Kind: api.TeHalt, Robot: r.number, Epoch: x.Epoch, Pose: r.pose(), Load: r.load()}}, how: robot.Stood}
	}
	return answer{}
}

// both fails unless a robot answers what the record does, and unless it is just so behind it.
func both(t *testing.T, r *robot.Robot, rec *record, c call) answer {
	t.Helper()
	a, want := do(r, c), rec.do(c)
	if !alike(a, want) {
		t.Fatalf("%+v behind %+v: %+v, want %+v", c, rec.calls, a, want)
	}
	w, under := rec.course()
	is := look{pose: rec.pose(), load: rec.load(), epoch: rec.epoch(), now: w.move, under: under, tells: rec.tells()[0]}
	if got := seen(t, r); got != is {
		t.Fatalf("behind %+v: %+v, want %+v", rec.calls, got, is)
	}
	return a
}
