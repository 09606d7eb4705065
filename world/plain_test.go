package world_test

import (
	"math"
	"slices"
	"testing"

	"skep/api"
	"skep/grid"
	"skep/robot"
	"skep/world"
)

// chance is numbers that look like any, the same at each run.
type chance uint64

func (c *chance) below(n int) int {
	*c = *c*6364136223846793005 + 1442695040888963407
	return int(uint64(*c)>>33) % n
}

// ends is numbers near the ends of their range, and near powers of two.
func ends() []int {
	out := []int{math.MinInt, math.MinInt + 1, math.MaxInt - 1, math.MaxInt}
	for _, i := range []int{8, 31, 32, 61, 62} {
		out = append(out, 1<<i, 1<<i+1, -1<<i, -1<<i-1)
	}
	return out
}

// at is a cell; to is a pose to the east of it, down is one to the south.
func at(x, y int) api.Cell   { return api.Cell{X: x, Y: y} }
func to(x, y int) api.Pose   { return api.Pose{At: at(x, y)} }
func down(x, y int) api.Pose { return api.Pose{At: at(x, y), Down: true} }

// bare is a config of nothing but cells.
func bare(w, h int) api.Conf {
	return api.Conf{W: w, H: h, Height: 2, Unit: 10, Accel: 2, Speed: 4, Turn: 5, Hoist: 6, Queue: 4, Resend: 20, Budget: 500}
}

// yard is a config with some of everything; the robots' homes are 0, 1, 2:
//
//	p s s s s s	the stacks: 7, 8 at 1, 0; 9 at 2, 0; 5, 3 at 3, 1; none at 4, 3
//	0 0 s s s 2
//	s s # s s 2
//	s s s s s s
//	p 1 1 s s .
func yard() api.Conf {
	c := bare(6, 5)
	c.Blocked = []api.Cell{at(2, 2)}
	c.Ports = []api.Cell{at(0, 0), at(0, 4)}
	c.Robots = []api.Pose{to(0, 1), to(1, 4), down(5, 1)}
	c.Stacks = []api.Stack{{At: at(1, 0), Bins: []int{7, 8}}, {At: at(2, 0), Bins: []int{9}}, {At: at(3, 1), Bins: []int{5, 3}}, {At: at(4, 3)}}
	return c
}

// tight is a config in which whoever moves soon comes to a port and to a stack.
func tight() api.Conf {
	c := bare(4, 3)
	c.Ports = []api.Cell{at(0, 0), at(2, 1)}
	c.Robots = []api.Pose{to(0, 2), to(2, 2)}
	c.Stacks = []api.Stack{{At: at(1, 0), Bins: []int{7, 8}}, {At: at(2, 0), Bins: []int{9}}, {At: at(1, 1), Bins: []int{1000000000, 2}}, {At: at(0, 1), Bins: []int{1}}}
	return c
}

// corner is a config of one robot, a stack and a port.
func corner() api.Conf {
	c := bare(3, 2)
	c.Ports = []api.Cell{at(0, 0)}
	c.Robots = []api.Pose{to(1, 1)}
	c.Stacks = []api.Stack{{At: at(1, 0), Bins: []int{7, 8}}}
	return c
}

// confs is configs of some shapes that may be.
func confs() []api.Conf {
	many := bare(16, 3)
	for i := range 8 {
		many.Robots = append(many.Robots, to(2*i, 0))
		many.Ports = append(many.Ports, at(2*i, 1))
		many.Stacks = append(many.Stacks, api.Stack{At: at(i, 2), Bins: []int{60 - i, i + 1}})
	}
	unmanned := bare(3, 2)
	unmanned.Ports = []api.Cell{at(0, 0)}
	unmanned.Stacks = []api.Stack{{At: at(1, 0), Bins: []int{4}}}
	return []api.Conf{bare(1, 1), unmanned, many, corner(), tight(), yard()}
}

// made is a config's world; it fails, if there is none.
func made(t *testing.T, c api.Conf) *world.World {
	t.Helper()
	w, e := world.New(c)
	if w == nil || e != api.OK {
		t.Fatalf("New: %v, error %d, of %+v", w, e, c)
	}
	return w
}

// shifted is a pose so many cells further in a direction.
func shifted(p api.Pose, dir, n int) api.Pose {
	steps := []api.Cell{at(0, -1), at(1, 0), at(0, 1), at(-1, 0)}
	p.At.X += n * steps[dir].X
	p.At.Y += n * steps[dir].Y
	return p
}

// runs, turns, lifts and drops are moves from a pose that take so many ticks.
func runs(p api.Pose, dir, n, ticks int) api.Move {
	return api.Move{Kind: api.Run, Dir: dir, N: n, From: p, To: shifted(p, dir, n), At: 50, End: 50 + ticks}
}
func turns(p api.Pose, ticks int) api.Move {
	return api.Move{Kind: api.Turn, From: p, To: api.Pose{At: p.At, Down: !p.Down}, At: 50, End: 50 + ticks}
}
func lifts(p api.Pose, ticks int) api.Move {
	return api.Move{Kind: api.Lift, From: p, To: p, At: 50, End: 50 + ticks}
}
func drops(p api.Pose, ticks int) api.Move {
	return api.Move{Kind: api.Drop, From: p, To: p, At: 50, End: 50 + ticks}
}

// goes is a go-ahead, stops is a stop for a robot.
func goes(i, epoch, num int, m api.Move) api.Tele {
	return api.Tele{Kind: api.TeGo, Robot: i, Epoch: epoch, Num: num, Move: m}
}
func stops(i, epoch int) api.Tele {
	return api.Tele{Kind: api.TeStop, Robot: i, Epoch: epoch}
}

// acks is how a robot tells that it has done a go-ahead, halts how it tells that it stands.
func acks(i, epoch, num int) api.Tele {
	return api.Tele{Kind: api.TeAck, Robot: i, Epoch: epoch, Num: num}
}
func halts(i, epoch int, p api.Pose, load int) api.Tele {
	return api.Tele{Kind: api.TeHalt, Robot: i, Epoch: epoch, Pose: p, Load: load}
}

// around is the cells of a grid, those about it, and cells with numbers near the ends of their range.
func around(c api.Conf) []api.Cell {
	out := []api.Cell{at(math.MinInt, 0), at(0, math.MaxInt), at(1<<62, 1<<62), at(-1<<32, 1)}
	for y := -1; y <= c.H; y++ {
		for x := -1; x <= c.W; x++ {
			out = append(out, at(x, y))
		}
	}
	return out
}

// robots is the numbers of a config's robots, and such as there are not.
func robots(c api.Conf) []int {
	out := append(ends(), -2, -1, len(c.Robots)+1)
	for i := range len(c.Robots) + 1 {
		out = append(out, i)
	}
	return out
}

// plainOpen tells by the words of grid's chapter whether a cell is open.
func plainOpen(c api.Conf, cell api.Cell) bool {
	return cell.X >= 0 && cell.X < c.W && cell.Y >= 0 && cell.Y < c.H && !slices.Contains(c.Blocked, cell)
}

// plainRoom is by the chapters' words how many bins an open cell has room for.
func plainRoom(c api.Conf, cell api.Cell) int {
	home := slices.ContainsFunc(c.Robots, func(p api.Pose) bool {
		return cell == p.At || !p.Down && cell == at(p.At.X+1, p.At.Y) || p.Down && cell == at(p.At.X, p.At.Y+1)
	})
	switch {
	case slices.Contains(c.Ports, cell):
		return 1
	case !home && (plainOpen(c, at(cell.X+1, cell.Y)) || plainOpen(c, at(cell.X, cell.Y+1))):
		return c.Height
	}
	return 0
}

// Kinds of calls.
const (
	hear = iota
	pass
	late
)

// call is one by which a world is turned.
type call struct {
	kind, i, n int
	tele       api.Tele
}

// answer is what a call answers, whichever it is.
type answer struct {
	teles []api.Tele
	e     api.Errno
}

// alike tells whether two answers are the same.
func alike(a, b answer) bool {
	return a.e == b.e && slices.Equal(a.teles, b.teles)
}

// do is what a world answers.
func do(w *world.World, c call) answer {
	switch c.kind {
	case hear:
		return answer{teles: w.Hear(c.tele)}
	case pass:
		return answer{teles: w.Tick()}
	}
	return answer{e: w.Delay(c.i, c.n)}
}

// model is the chapter's words done plainly: robots of layer 18, the bins by their cells, all that was seen.
type model struct {
	c      api.Conf
	grid   *grid.Grid
	robots []*robot.Robot
	stand  map[api.Cell][]int
	loads  []int
	now    int
	sights []api.Sight
}

// modelOf is a config's.
func modelOf(c api.Conf) *model {
	g, _ := grid.New(c)
	m := &model{c: c, grid: g, stand: map[api.Cell][]int{}, loads: make([]int, len(c.Robots))}
	for i := range c.Robots {
		r, _ := robot.New(c, i)
		m.robots = append(m.robots, r)
	}
	for _, s := range c.Stacks {
		m.stand[s.At] = slices.Clone(s.Bins)
	}
	return m
}

// do is what must be answered.
func (m *model) do(c call) answer {
	var a answer
	switch {
	case c.kind == hear && c.tele.Robot >= 0 && c.tele.Robot < len(m.robots):
		r := m.robots[c.tele.Robot]
		told, how := r.Hear(c.tele)
		a.teles = told
		if how != robot.Nothing {
			s := api.Sight{Kind: []int{0, api.SeStart, api.SeRefuse, api.SeHalt}[how], Tick: m.now, Robot: c.tele.Robot, Pose: r.Pose()}
			if how == robot.Began {
				s.Move = c.tele.Move
			}
			m.sights = append(m.sights, s)
		}
	case c.kind == pass:
		m.now++
		for i, r := range m.robots {
			if x, how := r.Tick(); how != robot.Still {
				m.ends(i, x, how == robot.Halted)
				a.teles = append(a.teles, r.Tell()...)
			}
		}
	case c.kind == late && (c.i < 0 || c.i >= len(m.robots) || c.n < 1):
		a.e = api.ErrArg
	case c.kind == late:
		m.robots[c.i].Delay(c.n)
	}
	return a
}

// ends writes down what is seen where a robot's move ends, and does it.
func (m *model) ends(i int, x api.Move, halted bool) {
	s := api.Sight{Tick: m.now, Robot: i, Pose: m.robots[i].Pose()}
	seen := func(kind, bin int, x api.Move) {
		s.Kind, s.Bin, s.Move = kind, bin, x
		m.sights = append(m.sights, s)
	}
	cell, bin := x.To.At, m.loads[i]
	l := m.stand[cell]
	switch {
	case x.Kind == api.Lift && bin == 0 && len(l) > 0:
		bin = l[len(l)-1]
		m.loads[i], m.stand[cell] = bin, l[:len(l)-1]
		seen(api.SeLift, bin, api.Move{})
	case x.Kind == api.Drop && bin != 0 && len(l) < plainRoom(m.c, cell):
		m.loads[i], m.stand[cell] = 0, append(l, bin)
		seen(api.SeDrop, bin, api.Move{})
		if slices.Contains(m.c.Ports, cell) {
			seen(api.SeDeliver, bin, api.Move{})
		}
	case x.Kind == api.Lift, x.Kind == api.Drop:
		seen(api.SeBad, 0, api.Move{})
	}
	m.robots[i].Carry(m.loads[i])
	seen(api.SeEnd, 0, x)
	if halted {
		seen(api.SeHalt, 0, api.Move{})
	}
}

// bins is all bins of a config, rising.
func bins(c api.Conf) []int {
	var out []int
	for _, s := range c.Stacks {
		out = append(out, s.Bins...)
	}
	slices.Sort(out)
	return out
}

// same fails unless a world tells all that the model does.
func same(t *testing.T, w *world.World, m *model) {
	t.Helper()
	if w.Now() != m.now {
		t.Fatalf("Now: %d, want %d", w.Now(), m.now)
	}
	if got := w.Sights(); !slices.Equal(got, m.sights) {
		t.Fatalf("Sights: %+v, want %+v", got, m.sights)
	}
	for _, i := range robots(m.c) {
		var want, got struct {
			pose      api.Pose
			load      int
			ok, under bool
			move      api.Move
		}
		if i >= 0 && i < len(m.robots) {
			want.pose, want.load, want.ok = m.robots[i].Pose(), m.loads[i], true
			want.move, want.under = m.robots[i].Now()
		}
		got.pose, got.load, got.ok = w.Robot(i)
		got.move, got.under = w.Under(i)
		if got != want {
			t.Fatalf("robot %d: %+v, want %+v", i, got, want)
		}
	}
	for _, c := range around(m.c) {
		if got := w.At(c); !slices.Equal(got, m.stand[c]) {
			t.Fatalf("At %v: %v, want %v", c, got, m.stand[c])
		}
	}
	if got := w.Bins(); !slices.Equal(got, bins(m.c)) {
		t.Fatalf("Bins: %v, want %v", got, bins(m.c))
	}
}

// both fails unless a world answers a call as the model does, and unless it is just so behind it.
func both(t *testing.T, w *world.World, m *model, c call) answer {
	t.Helper()
	got, want := do(w, c), m.do(c)
	if !alike(got, want) {
		t.Fatalf("%+v: %+v, want %+v", c, got, want)
	}
	same(t, w, m)
	return got
}

// hears fails unless a telegram is answered so, and unless just these sights are seen by it, all at one time, of one robot, at its pose.
func hears(t *testing.T, w *world.World, x api.Tele, answers []api.Tele, sights ...api.Sight) {
	t.Helper()
	was := w.Sights()
	if got := w.Hear(x); !slices.Equal(got, answers) {
		t.Fatalf("Hear of %+v: %+v, want %+v", x, got, answers)
	}
	adds(t, w, was, sights)
}

// ticks fails unless a tick tells just this, and unless just these sights are seen by it.
func ticks(t *testing.T, w *world.World, told []api.Tele, sights ...api.Sight) {
	t.Helper()
	was, now := w.Sights(), w.Now()
	if got := w.Tick(); !slices.Equal(got, told) {
		t.Fatalf("tick %d: %+v, want %+v", now+1, got, told)
	}
	if w.Now() != now+1 {
		t.Fatalf("behind the tick %d: %d", now, w.Now())
	}
	adds(t, w, was, sights)
}

// adds fails unless just these sights stand behind those that there were.
func adds(t *testing.T, w *world.World, was, more []api.Sight) {
	t.Helper()
	for i := range more {
		more[i].Tick = w.Now()
	}
	if got := w.Sights(); !slices.Equal(got, slices.Concat(was, more)) {
		t.Fatalf("seen: %+v behind %d, want %+v", got[min(len(was), len(got)):], len(was), more)
	}
}

// rests fails unless so many ticks go by in which nothing is told or seen.
func rests(t *testing.T, w *world.World, n int) {
	t.Helper()
	for range n {
		ticks(t, w, nil)
	}
}

// sight is one without a bin and a move; of is one with a bin, start and end those of a move.
func sight(kind, i int, p api.Pose) api.Sight {
	return api.Sight{Kind: kind, Robot: i, Pose: p}
}
func of(kind, i, bin int, p api.Pose) api.Sight {
	return api.Sight{Kind: kind, Robot: i, Bin: bin, Pose: p}
}
func start(i int, m api.Move) api.Sight {
	return api.Sight{Kind: api.SeStart, Robot: i, Pose: m.From, Move: m}
}
func end(i int, m api.Move) api.Sight {
	return api.Sight{Kind: api.SeEnd, Robot: i, Pose: m.To, Move: m}
}

// begins has a robot begin a move of the epoch 0 and fails unless it does.
func begins(t *testing.T, w *world.World, i, num int, m api.Move) {
	t.Helper()
	hears(t, w, goes(i, 0, num, m), nil, start(i, m))
}

// does has a robot do a move of the epoch 0; with its last tick alone it must be acknowledged, and these must be seen ahead of its end.
func does(t *testing.T, w *world.World, i, num int, m api.Move, sights ...api.Sight) {
	t.Helper()
	begins(t, w, i, num, m)
	rests(t, w, m.End-m.At-1)
	ticks(t, w, []api.Tele{acks(i, 0, num)}, append(sights, end(i, m))...)
}

// carries fails unless a robot has that bin, and a cell those.
func carries(t *testing.T, w *world.World, i, load int, c api.Cell, bins ...int) {
	t.Helper()
	if _, got, _ := w.Robot(i); got != load || !slices.Equal(w.At(c), bins) {
		t.Fatalf("robot %d has %d, at %v are %v; want %d, %v", i, got, c, w.At(c), load, bins)
	}
}
