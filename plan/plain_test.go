package plan_test

import (
	"math"
	"slices"
	"testing"

	"skep/api"
	"skep/grid"
	"skep/kinem"
	"skep/plan"
	"skep/resv"
	"skep/route"
)

// end is the tick at which all time ends.
const end = api.Forever

// chance is numbers that look like any, the same at each run.
type chance uint64

func (c *chance) below(n int) int {
	*c = *c*6364136223846793005 + 1442695040888963407
	return int(uint64(*c)>>33) % n
}

// ends is numbers near the ends of their range, and near powers of two.
func ends() []int {
	out := []int{math.MinInt, math.MinInt + 1, math.MaxInt - 1, math.MaxInt}
	for _, i := range []int{8, 16, 31, 32, 61, 62} {
		out = append(out, 1<<i, 1<<i+1, -1<<i, -1<<i-1)
	}
	return out
}

// plainConf is a hive in which a run takes as many ticks as it has cells, a turn 3, a lift or drop 4.
func plainConf(w, h int, blocked ...api.Cell) api.Conf {
	return api.Conf{W: w, H: h, Height: 1, Blocked: blocked, Unit: 1, Accel: 1, Speed: 1, Turn: 3, Hoist: 4, Queue: 1, Resend: 1, Budget: 1000}
}

// gridOf is a config's grid; it fails, if there is none.
func gridOf(t *testing.T, c api.Conf) *grid.Grid {
	t.Helper()
	g, e := grid.New(c)
	if e != api.OK {
		t.Fatalf("a config that may not be: %v", c)
	}
	return g
}

// kinOf is how a config's robots go.
func kinOf(t *testing.T, c api.Conf) *kinem.Kin {
	t.Helper()
	k, e := kinem.New(c.Unit, c.Accel, c.Speed)
	if e != api.OK {
		t.Fatal(e)
	}
	return k
}

// hold is a robot's slot on a cell.
type hold struct{ robot, cell, from, to int }

// tableOf is a table with these slots.
func tableOf(t *testing.T, cells int, l ...hold) *resv.Table {
	t.Helper()
	r, e := resv.New(cells)
	if e != api.OK {
		t.Fatal(e)
	}
	for _, h := range l {
		if e := r.Claim(h.robot, []resv.Want{{Cell: h.cell, From: h.from, To: h.to}}); e != api.OK {
			t.Fatalf("Claim of %v: error %d", h, e)
		}
	}
	return r
}

func cell(x, y int) api.Cell { return api.Cell{X: x, Y: y} }

// flat and down are poses to the east and to the south.
func flat(x, y int) api.Pose { return api.Pose{At: cell(x, y)} }
func down(x, y int) api.Pose { return api.Pose{At: cell(x, y), Down: true} }

// lifts and drops are stops at a cell.
func lifts(x, y int) plan.Stop { return plan.Stop{At: cell(x, y), Kind: api.Lift} }
func drops(x, y int) plan.Stop { return plan.Stop{At: cell(x, y), Kind: api.Drop} }

// run, turn, lift and drop are moves of plainConf, that last as long as there.
func run(from api.Pose, dir, n, at int) api.Move {
	m := api.Move{Kind: api.Run, Dir: dir, N: n, From: from, To: from, At: at, End: at + n}
	switch dir {
	case api.North:
		m.To.At.Y -= n
	case api.East:
		m.To.At.X += n
	case api.South:
		m.To.At.Y += n
	case api.West:
		m.To.At.X -= n
	}
	return m
}

func turn(from api.Pose, at int) api.Move {
	return api.Move{Kind: api.Turn, From: from, To: api.Pose{At: from.At, Down: !from.Down}, At: at, End: at + 3}
}

func lift(p api.Pose, at int) api.Move {
	return api.Move{Kind: api.Lift, From: p, To: p, At: at, End: at + 4}
}

func drop(p api.Pose, at int) api.Move {
	return api.Move{Kind: api.Drop, From: p, To: p, At: at, End: at + 4}
}

// question is what Round is asked.
type question struct {
	c     api.Conf
	r     *resv.Table
	robot int
	from  api.Pose
	at    int
	stops []plan.Stop
	home  api.Pose
}

func (q question) round() ([]api.Move, api.Errno) {
	return plan.Round(q.c, q.r, q.robot, q.from, q.at, q.stops, q.home)
}

// answers fails unless Round answers just this.
func answers(t *testing.T, q question, want []api.Move, e api.Errno) {
	t.Helper()
	got, ge := q.round()
	if ge != e || !slices.Equal(got, want) {
		t.Fatalf("Round from %v at %d to %v, home %v, robot %d:\n%v, error %d; want\n%v, error %d\nin %v", q.from, q.at, q.stops, q.home, q.robot, got, ge, want, e, q.c)
	}
}

// plainRound is what a question's answer must be, by the chapter's words, and in which way the error was (-1: in none).
func plainRound(q question) ([]api.Move, api.Errno, int) {
	if !grid.May(q.c) {
		return nil, api.ErrConf, -1
	}
	for _, s := range q.stops {
		if s.Kind != api.Lift && s.Kind != api.Drop {
			return nil, api.ErrArg, -1
		}
	}
	var all []api.Move
	pose, tick := q.from, q.at
	for i := 0; i <= len(q.stops); i++ {
		goal := route.Goal{Pose: q.home}
		if i < len(q.stops) {
			goal = route.Goal{Pose: api.Pose{At: q.stops[i].At}, Any: true}
		}
		way, e := route.Find(q.c, q.r, q.robot, pose, tick, goal)
		if e != api.OK {
			return nil, e, i
		}
		for _, m := range way {
			all = append(all, m)
			pose, tick = m.To, m.End
		}
		if i < len(q.stops) {
			all = append(all, api.Move{Kind: q.stops[i].Kind, From: pose, To: pose, At: tick, End: tick + q.c.Hoist})
			tick += q.c.Hoist
		}
	}
	if len(all) > 4096 {
		return nil, api.ErrFull, -1
	}
	return all, api.OK, -1
}

// plainHolds is what a robot has, by the chapter's words.
func plainHolds(g *grid.Grid, from api.Pose, moves []api.Move) []resv.Want {
	var out []resv.Want
	have := func(cells []api.Cell, a, b int) {
		for _, c := range cells {
			if a < b {
				out = append(out, resv.Want{Cell: g.Number(c), From: a, To: b})
			}
		}
	}
	if len(moves) == 0 {
		have(g.Cells(from), 0, end)
		return out
	}
	have(g.Cells(from), 0, moves[0].At)
	for i, m := range moves {
		have(g.Swept(m), m.At, m.End)
		until := end
		if i+1 < len(moves) {
			until = moves[i+1].At
		}
		have(g.Cells(m.To), m.End, until)
	}
	return out
}

// plainRight is whether moves are right, by the chapter's words.
func plainRight(g *grid.Grid, c api.Conf, k *kinem.Kin, from api.Pose, moves []api.Move) bool {
	for i, m := range moves {
		last := api.Move{To: from}
		if i > 0 {
			last = moves[i-1]
		}
		// Between 0 and Forever no difference leaves int64.
		inTime := m.At >= 0 && m.At < end && m.End >= 0 && m.End < end
		if !g.Legal(m) || m.From != last.To || m.At < last.End || !inTime || m.End-m.At != route.Lasts(c, k, m) {
			return false
		}
	}
	return true
}

// drawConf is a small hive.
func drawConf(luck *chance, side int) api.Conf {
	for {
		c := api.Conf{W: 1 + luck.below(side), H: 1 + luck.below(side), Height: 1 + luck.below(8), Queue: 1, Resend: 1, Budget: 10000, Back: luck.below(2) == 0}
		c.Unit, c.Accel, c.Speed = 1+luck.below(4), 1+luck.below(3), 1+luck.below(4)
		c.Turn, c.Hoist = 1+luck.below(6), 1+luck.below(6)
		for range luck.below(4) {
			c.Blocked = append(c.Blocked, cell(luck.below(c.W), luck.below(c.H)))
		}
		if grid.May(c) && len(poses(c)) > 0 {
			return c
		}
	}
}

// poses is all that fit, by their numbers.
func poses(c api.Conf) []api.Pose {
	g, _ := grid.New(c)
	var out []api.Pose
	for y := range c.H {
		for x := range c.W {
			for _, p := range []api.Pose{flat(x, y), down(x, y)} {
				if g.Fits(p) {
					out = append(out, p)
				}
			}
		}
	}
	return out
}

// fill claims slots of the robots 0 to 3 as luck has it, from a tick on, of at most so many ticks each.
func fill(luck *chance, r *resv.Table, many, from, ticks int) {
	for range many {
		a := from + luck.below(2*ticks)
		r.Claim(luck.below(4), []resv.Want{{Cell: luck.below(r.Cells()), From: a, To: a + 1 + luck.below(ticks)}})
	}
}

// drawQuestion is a question without anything that is wrong by itself, but that a way may have an error.
func drawQuestion(luck *chance, side int) question {
	c := drawConf(luck, side)
	r, _ := resv.New(c.W * c.H)
	fill(luck, r, luck.below(2*c.W*c.H), 0, 1+luck.below(33))
	if luck.below(6) == 0 {
		r.Claim(1, []resv.Want{{Cell: luck.below(r.Cells()), From: luck.below(90), To: end}})
	}
	all := poses(c)
	q := question{c: c, r: r, robot: luck.below(5), from: all[luck.below(len(all))], at: luck.below(40), home: all[luck.below(len(all))]}
	for range luck.below(5) {
		q.stops = append(q.stops, plan.Stop{At: all[luck.below(len(all))].At, Kind: api.Lift + luck.below(2)})
	}
	return q
}
