package route_test

import (
	"math"
	"slices"
	"testing"

	"skep/api"
	"skep/grid"
	"skep/kinem"
	"skep/resv"
	"skep/route"
)

// end is the tick at which all time ends.
const end = api.Forever

// chance is numbers that look like any, the same at each run.
type chance uint64

func (c *chance) below(n int) int {
	*c = *c*6364136223846793005 + 1442695040888963407
	return int(uint64(*c)>>33) % n
}

// ends is numbers near the ends of their range, and near powers of two.
func ends() []int {
	out := []int{math.MinInt, math.MinInt + 1, math.MaxInt - 1, math.MaxInt}
	for _, i := range []int{8, 16, 31, 32, 61, 62} {
		out = append(out, 1<<i, 1<<i+1, -1<<i, -1<<i-1)
	}
	return out
}

// plainConf is a hive in which a run takes as many ticks as it has cells, and a turn takes 3.
func plainConf(w, h int, blocked ...api.Cell) api.Conf {
	return api.Conf{W: w, H: h, Height: 1, Blocked: blocked, Unit: 1, Accel: 1, Speed: 1, Turn: 3, Hoist: 4, Queue: 1, Resend: 1, Budget: 1000}
}

// gridOf is a config's grid; it fails, if there is none.
func gridOf(t *testing.T, c api.Conf) *grid.Grid {
	t.Helper()
	g, e := grid.New(c)
	if e != api.OK {
		t.Fatalf("a config that may not be: %v", c)
	}
	return g
}

// kinOf is how a config's robots go.
func kinOf(t *testing.T, c api.Conf) *kinem.Kin {
	t.Helper()
	k, e := kinem.New(c.Unit, c.Accel, c.Speed)
	if e != api.OK {
		t.Fatal(e)
	}
	return k
}

// hold is a robot's slot on a cell.
type hold struct{ robot, cell, from, to int }

// tableOf is a table with these slots.
func tableOf(t *testing.T, cells int, l ...hold) *resv.Table {
	t.Helper()
	r, e := resv.New(cells)
	if e != api.OK {
		t.Fatal(e)
	}
	for _, h := range l {
		if e := r.Claim(h.robot, []resv.Want{{Cell: h.cell, From: h.from, To: h.to}}); e != api.OK {
			t.Fatalf("Claim of %v: error %d", h, e)
		}
	}
	return r
}

func cell(x, y int) api.Cell { return api.Cell{X: x, Y: y} }

// flat and down are poses to the east and to the south.
func flat(x, y int) api.Pose { return api.Pose{At: cell(x, y)} }
func down(x, y int) api.Pose { return api.Pose{At: cell(x, y), Down: true} }

func to(p api.Pose) route.Goal    { return route.Goal{Pose: p} }
func toAny(p api.Pose) route.Goal { return route.Goal{Pose: p, Any: true} }

// span is the ticks from one on, ahead of another.
type span struct{ from, to int }

// told is the stretches that Free tells, broken off behind most of them.
func told(g *grid.Grid, r *resv.Table, robot int, cells []api.Cell, most int) []span {
	var out []span
	for from, to := range route.Free(g, r, robot, cells) {
		out = append(out, span{from, to})
		if len(out) >= most {
			break
		}
	}
	return out
}

// anothers tells whether a cell is another robot's at a tick.
func anothers(r *resv.Table, number, robot, at int) bool {
	return slices.ContainsFunc(r.Slots(number), func(s api.Slot) bool {
		return s.Robot != robot && s.From <= at && at < s.To
	})
}

// plainFree is the stretches by the chapter's words, from edge to edge of the slots: between two edges nothing changes.
func plainFree(g *grid.Grid, r *resv.Table, robot int, cells []api.Cell) []span {
	edges := []int{0, end}
	for _, c := range cells {
		if g.Number(c) < 0 {
			return nil
		}
		for _, s := range r.Slots(g.Number(c)) {
			edges = append(edges, s.From, s.To)
		}
	}
	slices.Sort(edges)
	edges = slices.Compact(edges)
	var out []span
	for i, from := range edges[:len(edges)-1] {
		if slices.ContainsFunc(cells, func(c api.Cell) bool { return anothers(r, g.Number(c), robot, from) }) {
			continue
		}
		if n := len(out); n > 0 && out[n-1].to == from {
			out[n-1].to = edges[i+1]
		} else {
			out = append(out, span{from, edges[i+1]})
		}
	}
	return out
}

// question is what Find is asked.
type question struct {
	c     api.Conf
	r     *resv.Table
	robot int
	from  api.Pose
	at    int
	goal  route.Goal
}

func (q question) find() ([]api.Move, api.Errno) {
	return route.Find(q.c, q.r, q.robot, q.from, q.at, q.goal)
}

// node is a state of the plain search.
type node struct {
	pose    api.Pose
	stretch int
}

// note is how a node was reached.
type note struct {
	at    int
	move  api.Move
	back  node
	taken bool
}

// plainSearch is the chapter's search, word by word; every free stretch is asked for anew.
type plainSearch struct {
	q     question
	g     *grid.Grid
	k     *kinem.Kin
	notes map[node]*note
	// what was told once of a list of cells, by their numbers
	memo map[string][]span
}

func (s *plainSearch) free(cells []api.Cell) []span {
	var key []byte
	for _, c := range cells {
		key = append(key, byte(s.g.Number(c)))
	}
	l, ok := s.memo[string(key)]
	if !ok {
		l = plainFree(s.g, s.q.r, s.q.robot, cells)
		s.memo[string(key)] = l
	}
	return l
}

// at is the pose's stretch that has a tick; -1: none.
func (s *plainSearch) at(p api.Pose, tick int) int {
	return slices.IndexFunc(s.free(s.g.Cells(p)), func(f span) bool { return f.from <= tick && tick < f.to })
}

func (s *plainSearch) poseNumber(p api.Pose) int {
	n := 2 * (p.At.Y*s.q.c.W + p.At.X)
	if p.Down {
		n++
	}
	return n
}

// first is the node that is to be taken.
func (s *plainSearch) first() (node, bool) {
	var best node
	found := false
	for n, o := range s.notes {
		if o.taken {
			continue
		}
		if !found || slices.Compare([]int{o.at, s.poseNumber(n.pose), n.stretch}, []int{s.notes[best].at, s.poseNumber(best.pose), best.stretch}) < 0 {
			best, found = n, true
		}
	}
	return best, found
}

func (s *plainSearch) isGoal(n node) bool {
	l := s.free(s.g.Cells(n.pose))
	goal := n.pose == s.q.goal.Pose
	if s.q.goal.Any {
		goal = n.pose.At == s.q.goal.Pose.At
	}
	return goal && l[n.stretch].to == end
}

func (s *plainSearch) spread(n node) {
	own, a := s.free(s.g.Cells(n.pose))[n.stretch], s.notes[n].at
	for m := range s.g.Moves(n.pose) {
		lasts := s.q.c.Turn
		if m.Kind == api.Run {
			lasts = s.k.Time(m.N)
		}
		for _, f := range s.free(s.g.Swept(m)) {
			if f.from < own.from || f.to > own.to {
				continue
			}
			m.At = max(a, f.from)
			// Forever is 2^62: no sum of both leaves int64
			m.End = min(m.At+lasts, end)
			if m.End > f.to || m.End >= end {
				continue
			}
			there := node{m.To, s.at(m.To, m.End)}
			if there.stretch < 0 {
				continue
			}
			if o := s.notes[there]; o == nil || m.End < o.at {
				s.notes[there] = &note{at: m.End, move: m, back: n}
			}
		}
	}
}

// plainFind is what a question's answer must be (of one that is neither ErrConf nor ErrArg), and how many states were taken.
func plainFind(t *testing.T, q question) ([]api.Move, api.Errno, int) {
	t.Helper()
	s := &plainSearch{q: q, g: gridOf(t, q.c), k: kinOf(t, q.c), notes: map[node]*note{}, memo: map[string][]span{}}
	start := node{q.from, s.at(q.from, q.at)}
	if start.stretch < 0 {
		return nil, api.ErrTaken, 0
	}
	s.notes[start] = &note{at: q.at}
	for taken := 0; ; taken++ {
		if taken == q.c.Budget {
			return nil, api.ErrBudget, taken
		}
		n, ok := s.first()
		if !ok {
			return nil, api.ErrRoute, taken
		}
		s.notes[n].taken = true
		if s.isGoal(n) {
			var out []api.Move
			for ; n != start; n = s.notes[n].back {
				out = append([]api.Move{s.notes[n].move}, out...)
			}
			return out, api.OK, taken + 1
		}
		s.spread(n)
	}
}

// answers fails unless Find answers just this.
func answers(t *testing.T, q question, want []api.Move, e api.Errno) {
	t.Helper()
	got, ge := q.find()
	if ge != e || !slices.Equal(got, want) {
		t.Fatalf("Find from %v at %d to %v, robot %d:\n%v, error %d; want\n%v, error %d\nin %v", q.from, q.at, q.goal, q.robot, got, ge, want, e, q.c)
	}
}

// drawConf is a small hive.
func drawConf(luck *chance, side int) api.Conf {
	for {
		c := api.Conf{W: 1 + luck.below(side), H: 1 + luck.below(side), Height: 1 + luck.below(8), Queue: 1, Resend: 1, Budget: 10000, Back: luck.below(2) == 0}
		c.Unit, c.Accel, c.Speed = 1+luck.below(4), 1+luck.below(3), 1+luck.below(4)
		c.Turn, c.Hoist = 1+luck.below(6), 1+luck.below(6)
		for range luck.below(4) {
			c.Blocked = append(c.Blocked, cell(luck.below(c.W), luck.below(c.H)))
		}
		if grid.May(c) && len(poses(c)) > 0 {
			return c
		}
	}
}

// poses is all that fit, by their numbers.
func poses(c api.Conf) []api.Pose {
	g, _ := grid.New(c)
	var out []api.Pose
	for y := range c.H {
		for x := range c.W {
			for _, p := range []api.Pose{flat(x, y), down(x, y)} {
				if g.Fits(p) {
					out = append(out, p)
				}
			}
		}
	}
	return out
}

// fill claims slots of the robots 0 to 3 as luck has it, from a tick on, of at most so many ticks each, all ahead of from and three times that.
func fill(luck *chance, r *resv.Table, many, from, ticks int) {
	for range many {
		a := from + luck.below(2*ticks)
		b := a + 1 + luck.below(ticks)
		if luck.below(12) == 0 {
			a = from
		}
		r.Claim(luck.below(4), []resv.Want{{Cell: luck.below(r.Cells()), From: a, To: min(b, end)}})
	}
}

// drawQuestion is a question that is neither ErrConf nor ErrArg, with slots all ahead of 100, but for some that end at Forever.
func drawQuestion(luck *chance, side int) question {
	c := drawConf(luck, side)
	r, _ := resv.New(c.W * c.H)
	fill(luck, r, luck.below(3*c.W*c.H), 0, 1+luck.below(33))
	if luck.below(3) == 0 {
		r.Claim(1, []resv.Want{{Cell: luck.below(r.Cells()), From: luck.below(90), To: end}})
	}
	all := poses(c)
	q := question{c: c, r: r, robot: luck.below(5), from: all[luck.below(len(all))], at: luck.below(40)}
	q.goal = route.Goal{Pose: all[luck.below(len(all))], Any: luck.below(2) == 0}
	return q
}
