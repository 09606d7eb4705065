package state_test

import (
	"math"
	"reflect"
	"slices"
	"testing"

	"skep/api"
	"skep/book"
	"skep/grid"
	"skep/kinem"
	"skep/plan"
	"skep/resv"
	"skep/state"
)

// most is the greatest that Seq, Epoch, Num and NextJob may be.
const most = 1 << 40

// chance is numbers that look like any, the same at each run.
type chance uint64

func (c *chance) below(n int) int {
	*c = *c*6364136223846793005 + 1442695040888963407
	return int(uint64(*c)>>33) % n
}

// ends is numbers near the ends of their range, and near powers of two.
func ends() []int {
	out := []int{math.MinInt, math.MinInt + 1, math.MaxInt - 1, math.MaxInt}
	for _, i := range []int{8, 16, 31, 32, 40, 61, 62} {
		out = append(out, 1<<i, 1<<i+1, -1<<i, -1<<i-1)
	}
	return out
}

func at(x, y int) api.Cell { return api.Cell{X: x, Y: y} }

// flat and down are poses to the east and to the south.
func flat(x, y int) api.Pose { return api.Pose{At: at(x, y)} }
func down(x, y int) api.Pose { return api.Pose{At: at(x, y), Down: true} }

// pile is a stack.
func pile(x, y int, bins ...int) api.Stack { return api.Stack{At: at(x, y), Bins: bins} }

// bare is a config of nothing but cells.
func bare(w, h, height, queue int) api.Conf {
	return api.Conf{W: w, H: h, Height: height, Unit: 10, Accel: 2, Speed: 4, Turn: 5, Hoist: 6, Queue: queue, Resend: 20, Budget: 5000}
}

// three is a config with three ports, not in the order of their cells:
//
//	1 s s 0 s 2
//	s s s # s s
//	h h s s h h
func three() api.Conf {
	c := bare(6, 3, 3, 2)
	c.Blocked = []api.Cell{at(3, 1)}
	c.Ports = []api.Cell{at(3, 0), at(0, 0), at(5, 0)}
	c.Robots = []api.Pose{flat(0, 2), flat(4, 2)}
	c.Stacks = []api.Stack{pile(2, 1, 7, 8, 9), pile(1, 1, 4, 5, 6), pile(4, 1, 1, 2, 3), pile(1, 0, 10), pile(2, 2, 11, 12)}
	return c
}

// Events, in short.
func evOrder(bin, port int) api.Event { return api.Event{Kind: api.EvOrder, A: bin, B: port} }
func evBegin(order int) api.Event     { return api.Event{Kind: api.EvBegin, A: order} }
func evGo(robot int) api.Event        { return api.Event{Kind: api.EvGo, A: robot} }
func evDone(robot int) api.Event      { return api.Event{Kind: api.EvDone, A: robot} }
func evDrain(port int) api.Event      { return api.Event{Kind: api.EvDrain, A: port} }
func evStop() api.Event               { return api.Event{Kind: api.EvStop} }
func evResume() api.Event             { return api.Event{Kind: api.EvResume} }

func evPlan(robot, job int, moves []api.Move) api.Event {
	return api.Event{Kind: api.EvPlan, A: robot, B: job, Moves: moves}
}

func evHalt(robot, load int, p api.Pose) api.Event {
	return api.Event{Kind: api.EvHalt, A: robot, B: load, Pose: p}
}

func lifts(c api.Cell) plan.Stop { return plan.Stop{At: c, Kind: api.Lift} }
func drops(c api.Cell) plan.Stop { return plan.Stop{At: c, Kind: api.Drop} }

// nilled is a state whose empty lists are nil, all of them in memory of their own.
func nilled(s api.State) api.State {
	s.Stacks, s.Robots, s.Ports = void(s.Stacks), void(s.Robots), void(s.Ports)
	s.Orders, s.Jobs = void(s.Orders), void(s.Jobs)
	for i := range s.Stacks {
		s.Stacks[i].Bins = void(s.Stacks[i].Bins)
	}
	for i := range s.Robots {
		s.Robots[i].Moves = void(s.Robots[i].Moves)
	}
	for i := range s.Ports {
		s.Ports[i].Queue = void(s.Ports[i].Queue)
	}
	return s
}

// void is a list in memory of its own, nil if it is empty.
func void[T any](l []T) []T {
	return append([]T(nil), l...)
}

// same fails unless two states are one, but for empty lists.
func same(t *testing.T, got, want api.State) {
	t.Helper()
	if !reflect.DeepEqual(nilled(got), nilled(want)) {
		t.Fatalf("got\n%+v\nwant\n%+v", got, want)
	}
}

// plainFirst is the state at a config's beginning, by the chapter's words.
func plainFirst(c api.Conf) api.State {
	s := api.State{NextOrder: 1, NextJob: 1}
	g, _ := grid.New(c)
	for y := range c.H {
		for x := range c.W {
			if !g.Stacked(at(x, y)) {
				continue
			}
			l := api.Stack{At: at(x, y)}
			for _, given := range c.Stacks {
				if given.At == l.At {
					l.Bins = slices.Clone(given.Bins)
				}
			}
			s.Stacks = append(s.Stacks, l)
		}
	}
	for _, p := range c.Robots {
		s.Robots = append(s.Robots, api.Robot{At: p})
	}
	for range c.Ports {
		s.Ports = append(s.Ports, api.Port{})
	}
	return s
}

// plainTable is the robots' holds, those of one robot left out (-1: of none), and whether none meet.
func plainTable(c api.Conf, s api.State, but int) (*resv.Table, bool) {
	g, _ := grid.New(c)
	t, _ := resv.New(c.W * c.H)
	ok := true
	for i, r := range s.Robots {
		if i == but {
			continue
		}
		ok = t.Claim(i, plan.Holds(g, r.At, r.Moves)) == api.OK && ok
	}
	return t, ok
}

// plainTurn is whether a robot may go, by the chapter's words.
func plainTurn(c api.Conf, s api.State, robot int) bool {
	if robot < 0 || robot >= len(s.Robots) || len(s.Robots[robot].Moves) == 0 {
		return false
	}
	g, _ := grid.New(c)
	t, _ := plainTable(c, s, -1)
	for _, cell := range g.Swept(s.Robots[robot].Moves[0]) {
		l := t.Slots(g.Number(cell))
		if len(l) == 0 || l[0].Robot != robot {
			return false
		}
	}
	return true
}

// roundOf is a robot's round at a tick, home at last, among the others' times.
func roundOf(c api.Conf, s api.State, robot, tick int, stops ...plan.Stop) []api.Move {
	t, _ := plainTable(c, s, -1)
	l, _ := plan.Round(c, t, robot, s.Robots[robot].At, tick, stops, c.Robots[robot])
	return l
}

// roundFor is the round by which a robot does a job.
func roundFor(c api.Conf, s api.State, robot, tick int, j api.Job) []api.Move {
	if s.Robots[robot].Load != 0 {
		return roundOf(c, s, robot, tick, drops(j.To))
	}
	return roundOf(c, s, robot, tick, lifts(j.From), drops(j.To))
}

// jobOf is the job with an ID.
func jobOf(s api.State, id int) (api.Job, bool) {
	for _, j := range s.Jobs {
		if j.ID == id {
			return j, true
		}
	}
	return api.Job{}, false
}

// plainDo does a robot's first move in a state that is the test's own.
func plainDo(c api.Conf, s *api.State, robot int) bool {
	r := &s.Robots[robot]
	m := r.Moves[0]
	r.At, r.Moves = m.To, r.Moves[1:]
	port := slices.Index(c.Ports, m.To.At)
	stack := slices.IndexFunc(s.Stacks, func(l api.Stack) bool { return l.At == m.To.At })
	j, ok := jobOf(*s, r.Job)
	switch m.Kind {
	case api.Lift:
		if !ok {
			return false
		}
		switch {
		case port >= 0 && s.Ports[port].Bin == j.Bin:
			s.Ports[port].Bin = 0
		case stack >= 0 && len(s.Stacks[stack].Bins) > 0 && s.Stacks[stack].Bins[len(s.Stacks[stack].Bins)-1] == j.Bin:
			s.Stacks[stack].Bins = s.Stacks[stack].Bins[:len(s.Stacks[stack].Bins)-1]
		default:
			return false
		}
		r.Load = j.Bin
	case api.Drop:
		if r.Load == 0 {
			return false
		}
		switch {
		case port >= 0 && s.Ports[port].Bin == 0:
			s.Ports[port].Bin = r.Load
		case stack >= 0 && len(s.Stacks[stack].Bins) < c.Height:
			s.Stacks[stack].Bins = append(s.Stacks[stack].Bins, r.Load)
		default:
			return false
		}
		r.Load, r.Job = 0, 0
		s.Jobs = slices.DeleteFunc(s.Jobs, func(x api.Job) bool { return x.ID == j.ID })
		if j.Kind == api.Fetch {
			s.Orders[j.Order-1].State = api.Delivered
			s.Ports[s.Orders[j.Order-1].Port].Active = 0
		}
	}
	return true
}

// plainApply is what Apply must answer in a state that may be, by the chapter's words.
func plainApply(c api.Conf, s api.State, e api.Event) (api.State, api.Errno) {
	none := api.State{}
	if !grid.May(c) {
		return none, api.ErrConf
	}
	switch {
	case e.Kind < 1 || e.Kind > 9:
		return none, api.ErrArg
	case (e.Kind == api.EvPlan || e.Kind == api.EvGo || e.Kind == api.EvDone || e.Kind == api.EvHalt) && (e.A < 0 || e.A >= len(s.Robots)):
		return none, api.ErrArg
	case e.Kind == api.EvBegin && (e.A < 1 || e.A > len(s.Orders)):
		return none, api.ErrArg
	case s.Seq == most:
		return none, api.ErrFull
	}
	n := nilled(s)
	n.Seq++
	var f api.Errno
	switch e.Kind {
	case api.EvOrder, api.EvBegin, api.EvDrain:
		f = plainBooked(c, &n, e)
	case api.EvPlan:
		f = plainPlanned(c, &n, e)
	case api.EvGo, api.EvDone:
		f = plainGone(c, &n, e)
	default:
		f = plainStopped(c, &n, e)
	}
	if f != api.OK {
		return none, f
	}
	return n, api.OK
}

// plainBooked does EvOrder, EvBegin and EvDrain.
func plainBooked(c api.Conf, n *api.State, e api.Event) api.Errno {
	switch e.Kind {
	case api.EvOrder:
		if _, f := book.Admit(c, *n, e.A, e.B); f != api.OK {
			return f
		}
		if e.B == -1 {
			return api.ErrPort
		}
		n.Orders = append(n.Orders, api.Order{ID: n.NextOrder, Bin: e.A, Port: e.B})
		n.Ports[e.B].Queue = append(n.Ports[e.B].Queue, n.NextOrder)
		n.NextOrder++
	case api.EvBegin:
		id, jobs, ok := book.Next(c, *n)
		if !ok || id != e.A {
			return api.ErrState
		}
		for _, j := range jobs {
			j.ID, j.Order = n.NextJob, id
			n.Jobs = append(n.Jobs, j)
			n.NextJob++
		}
		if n.NextJob > most {
			return api.ErrFull
		}
		o := &n.Orders[id-1]
		o.State = api.Active
		n.Ports[o.Port].Active, n.Ports[o.Port].Queue = id, n.Ports[o.Port].Queue[1:]
	case api.EvDrain:
		j, f := book.Drain(c, *n, e.A)
		if f != api.OK {
			return f
		}
		if n.NextJob == most {
			return api.ErrFull
		}
		j.ID = n.NextJob
		n.Jobs = append(n.Jobs, j)
		n.NextJob++
	}
	return api.OK
}

// plainPlanned does EvPlan.
func plainPlanned(c api.Conf, n *api.State, e api.Event) api.Errno {
	r := &n.Robots[e.A]
	if n.Held {
		return api.ErrHeld
	}
	if len(r.Moves) > 0 {
		return api.ErrState
	}
	if e.B != 0 {
		ready := false
		for j := range book.Ready(*n) {
			ready = ready || j.ID == e.B
		}
		if r.Job != 0 || !ready {
			return api.ErrState
		}
		r.Job = e.B
		for i := range n.Jobs {
			if n.Jobs[i].ID == e.B {
				n.Jobs[i].Robot = e.A
			}
		}
	}
	var want, got []plan.Stop
	if j, ok := jobOf(*n, r.Job); ok && r.Load == 0 {
		want = []plan.Stop{lifts(j.From), drops(j.To)}
	} else if ok {
		want = []plan.Stop{drops(j.To)}
	}
	for _, m := range e.Moves {
		switch m.Kind {
		case api.Lift:
			got = append(got, lifts(m.From.At))
		case api.Drop:
			got = append(got, drops(m.From.At))
		}
	}
	k, _ := kinem.New(c.Unit, c.Accel, c.Speed)
	if len(e.Moves) < 1 || len(e.Moves) > 4096 || !plan.Right(c, k, r.At, e.Moves) || !slices.Equal(want, got) {
		return api.ErrState
	}
	g, _ := grid.New(c)
	others, _ := plainTable(c, *n, e.A)
	if others.Claim(e.A, plan.Holds(g, r.At, e.Moves)) != api.OK {
		return api.ErrState
	}
	r.Moves = slices.Clone(e.Moves)
	for i, x := range n.Robots {
		if x.Out && !plainTurn(c, *n, i) {
			return api.ErrState
		}
	}
	return api.OK
}

// plainGone does EvGo and EvDone.
func plainGone(c api.Conf, n *api.State, e api.Event) api.Errno {
	r := &n.Robots[e.A]
	if n.Held {
		return api.ErrHeld
	}
	if e.Kind == api.EvDone {
		if !r.Out || !plainDo(c, n, e.A) {
			return api.ErrState
		}
		r.Out = false
		return api.OK
	}
	if r.Out || !plainTurn(c, *n, e.A) {
		return api.ErrState
	}
	if r.Num == most {
		return api.ErrFull
	}
	r.Out = true
	r.Num++
	return api.OK
}

// plainStopped does EvStop, EvHalt and EvResume.
func plainStopped(c api.Conf, n *api.State, e api.Event) api.Errno {
	switch e.Kind {
	case api.EvStop:
		if n.Epoch == most {
			return api.ErrFull
		}
		n.Epoch++
		n.Held = true
		for i := range n.Robots {
			r := &n.Robots[i]
			r.Stands = false
			if r.Out {
				r.Moves = r.Moves[:1]
			} else {
				r.Moves = nil
			}
		}
	case api.EvHalt:
		r := &n.Robots[e.A]
		if !n.Held || r.Stands {
			return api.ErrState
		}
		if e.B != r.Load || !slices.Contains(plainPoses(c, *r), e.Pose) {
			was := r.At
			hoists := r.Out && (r.Moves[0].Kind == api.Lift || r.Moves[0].Kind == api.Drop)
			if !hoists || !plainDo(c, n, e.A) || r.Load != e.B || e.Pose != was {
				return api.ErrState
			}
		}
		r.At, r.Moves, r.Out, r.Num, r.Stands = e.Pose, nil, false, 0, true
	case api.EvResume:
		if !n.Held || slices.ContainsFunc(n.Robots, func(r api.Robot) bool { return !r.Stands }) {
			return api.ErrState
		}
		n.Held = false
		for i := range n.Robots {
			n.Robots[i].Stands = false
		}
	}
	return api.OK
}

// plainPoses is where a robot may be found.
func plainPoses(c api.Conf, r api.Robot) []api.Pose {
	out := []api.Pose{r.At}
	if !r.Out {
		return out
	}
	m := r.Moves[0]
	g, _ := grid.New(c)
	switch m.Kind {
	case api.Run:
		for n := range m.N + 1 {
			p, _ := g.Shift(m.From, m.Dir, n)
			out = append(out, p)
		}
	case api.Turn:
		out = append(out, m.From, m.To)
	}
	return out
}

// applies fails unless Apply answers just this.
func applies(t *testing.T, c api.Conf, s api.State, e api.Event, want api.State, f api.Errno) {
	t.Helper()
	got, gf := state.Apply(c, s, e)
	if gf != f || !reflect.DeepEqual(nilled(got), nilled(want)) {
		t.Fatalf("Apply of %+v:\n%+v, error %d; want\n%+v, error %d; in\n%+v", e, got, gf, want, f, s)
	}
}

// refuses fails unless an event is refused with this error.
func refuses(t *testing.T, c api.Conf, s api.State, e api.Event, f api.Errno) {
	t.Helper()
	applies(t, c, s, e, api.State{}, f)
}

// takes is the state behind an event that must be taken, as told by the layer and by the chapter's words.
func takes(t *testing.T, c api.Conf, s api.State, e api.Event) api.State {
	t.Helper()
	want, f := plainApply(c, s, e)
	if f != api.OK {
		t.Fatalf("%+v is refused: error %d; in\n%+v", e, f, s)
	}
	applies(t, c, s, e, want, api.OK)
	if !plainCheck(c, want) {
		t.Fatalf("no state of the config:\n%+v", want)
	}
	return want
}

// goes is the state behind events, each of which must be taken.
func goes(t *testing.T, c api.Conf, s api.State, l ...api.Event) api.State {
	t.Helper()
	for _, e := range l {
		s = takes(t, c, s, e)
	}
	return s
}

// works plans a robot's round for a job that is ready (or its own), at a tick, and has it do n moves.
func works(t *testing.T, c api.Conf, s api.State, robot, job, tick, n int) api.State {
	t.Helper()
	j, _ := jobOf(s, job)
	b := job
	if s.Robots[robot].Job == job {
		b = 0
	}
	s = goes(t, c, s, evPlan(robot, b, roundFor(c, s, robot, tick, j)))
	return moved(t, c, s, robot, n)
}

// moved has a robot do n moves.
func moved(t *testing.T, c api.Conf, s api.State, robot, n int) api.State {
	t.Helper()
	for range n {
		s = goes(t, c, s, evGo(robot), evDone(robot))
	}
	return s
}

// until has a robot do its moves ahead of the first of a kind, and gives it the go-ahead for that one.
func until(t *testing.T, c api.Conf, s api.State, robot, kind int) api.State {
	t.Helper()
	n := slices.IndexFunc(s.Robots[robot].Moves, func(m api.Move) bool { return m.Kind == kind })
	if n < 0 {
		t.Fatalf("no move of the kind %d: %v", kind, s.Robots[robot].Moves)
	}
	return goes(t, c, moved(t, c, s, robot, n), evGo(robot))
}
