package route_test

import (
	"slices"
	"testing"

	"skep/api"
	"skep/grid"
	"skep/kinem"
	"skep/resv"
	"skep/route"
)

// unused fails unless none of the cells is another's than the robot's from a tick on, ahead of another.
func unused(t *testing.T, q question, g *grid.Grid, cells []api.Cell, from, to int) {
	t.Helper()
	for _, c := range cells {
		for _, s := range q.r.Slots(g.Number(c)) {
			if s.Robot != q.robot && s.From < to && from < s.To {
				t.Fatalf("%v from %d to %d: robot %d has it from %d to %d", c, from, to, s.Robot, s.From, s.To)
			}
		}
	}
}

// sound fails unless moves are such as P12.3 says, whichever way they take.
func sound(t *testing.T, q question, moves []api.Move) {
	t.Helper()
	g, k := gridOf(t, q.c), kinOf(t, q.c)
	p, at := q.from, q.at
	for _, m := range moves {
		if !g.Legal(m) || m.From != p || m.At < at || m.End != m.At+route.Lasts(q.c, k, m) || m.End >= end {
			t.Fatalf("%v behind %v at %d", m, p, at)
		}
		unused(t, q, g, g.Cells(p), at, m.At)
		unused(t, q, g, g.Swept(m), m.At, m.End)
		p, at = m.To, m.End
	}
	unused(t, q, g, g.Cells(p), at, end)
	if p != q.goal.Pose && !(q.goal.Any && p.At == q.goal.Pose.At) {
		t.Fatalf("%v is not %v", p, q.goal)
	}
}

// trial goes tick by tick through all that a robot could do.
type trial struct {
	q question
	g *grid.Grid
	k *kinem.Kin
	// moves of each pose, by its place among poses, and who can be where: at[tick][pose].
	poses []api.Pose
	moves [][]api.Move
	last  int
	at    [][]bool
}

// free tells whether none of the cells is another's at any tick from one on, ahead of another.
func (w *trial) free(cells []api.Cell, from, to int) bool {
	for _, c := range cells {
		for _, s := range w.q.r.Slots(w.g.Number(c)) {
			if s.Robot != w.q.robot && s.From < to && from < s.To {
				return false
			}
		}
	}
	return true
}

// newTrial is one that ends when each pose could have been come to behind the last slot's begin and end.
func newTrial(t *testing.T, q question) *trial {
	t.Helper()
	w := &trial{q: q, g: gridOf(t, q.c), k: kinOf(t, q.c), poses: poses(q.c)}
	longest, still := 1, q.at
	for _, p := range w.poses {
		l := slices.Collect(w.g.Moves(p))
		w.moves = append(w.moves, l)
		for _, m := range l {
			longest = max(longest, route.Lasts(q.c, w.k, m))
		}
	}
	for number := range q.r.Cells() {
		for _, s := range q.r.Slots(number) {
			still = max(still, s.From)
			if s.To < end {
				still = max(still, s.To)
			}
		}
	}
	w.last = still + (len(w.poses)+1)*longest
	for range w.last + longest + 1 {
		w.at = append(w.at, make([]bool, len(w.poses)))
	}
	return w
}

// earliest is the first tick at which the robot can be at a goal for ever, by waits of a tick and moves at every tick; false, if never.
func (w *trial) earliest() (int, bool) {
	w.at[w.q.at][slices.Index(w.poses, w.q.from)] = true
	for tick := w.q.at; tick <= w.last; tick++ {
		for i, p := range w.poses {
			// Whoever is there must have the tick at which it is.
			if !w.at[tick][i] || !w.free(w.g.Cells(p), tick, tick+1) {
				continue
			}
			goal := p == w.q.goal.Pose || w.q.goal.Any && p.At == w.q.goal.Pose.At
			if goal && w.free(w.g.Cells(p), tick, end) {
				return tick, true
			}
			w.at[tick+1][i] = true
			for _, m := range w.moves[i] {
				if lasts := route.Lasts(w.q.c, w.k, m); w.free(w.g.Swept(m), tick, tick+lasts) {
					w.at[tick+lasts][slices.Index(w.poses, m.To)] = true
				}
			}
		}
	}
	return 0, false
}

// P12.3: the moves are legal, one behind the other, in free stretches, between which the robot may stand, and at last for ever; and no way is earlier: held against a search that tries all.
func TestNoWayIsEarlier(t *testing.T) {
	var luck chance = 37
	ways, none := 0, 0
	for range 700 {
		q := drawQuestion(&luck, 3)
		moves, e := q.find()
		if e == api.ErrTaken {
			continue
		}
		tick, ok := newTrial(t, q).earliest()
		if ok != (e == api.OK) || !ok && e != api.ErrRoute {
			t.Fatalf("error %d, but a way: %v", e, ok)
		}
		if !ok {
			none++
			continue
		}
		sound(t, q, moves)
		last := q.at
		if len(moves) > 0 {
			last = moves[len(moves)-1].End
			ways++
		}
		if last != tick {
			t.Fatalf("at a goal at %d, could be at %d: %v", last, tick, moves)
		}
	}
	if ways < 100 || none < 50 {
		t.Errorf("%d ways, %d times none", ways, none)
	}
}

// P12.3: ways in greater hives are sound, and what the robot then has can be claimed, tick by tick.
func TestWaysCanBeClaimed(t *testing.T) {
	var luck chance = 41
	ways := 0
	for range 1500 {
		q := drawQuestion(&luck, 7)
		moves, e := q.find()
		if e != api.OK {
			continue
		}
		ways++
		sound(t, q, moves)
		g := gridOf(t, q.c)
		var l []resv.Want
		have := func(cells []api.Cell, from, to int) {
			for _, c := range cells {
				if from < to {
					l = append(l, resv.Want{Cell: g.Number(c), From: from, To: to})
				}
			}
		}
		p, at := q.from, q.at
		for _, m := range moves {
			have(g.Cells(p), at, m.At)
			have(g.Swept(m), m.At, m.End)
			p, at = m.To, m.End
		}
		have(g.Cells(p), at, end)
		if e := q.r.Claim(q.robot, l); e != api.OK {
			t.Fatalf("error %d of %v", e, l)
		}
	}
	if ways < 500 {
		t.Errorf("%d ways", ways)
	}
}

// later is moves, each so many ticks later.
func later(moves []api.Move, by int) []api.Move {
	out := slices.Clone(moves)
	for i := range out {
		out[i].At += by
		out[i].End += by
	}
	return out
}

// P12.3: with nobody else's slots a later at makes all later by just so much, and no move waits.
func TestLaterIsAlike(t *testing.T) {
	var luck chance = 43
	for range 300 {
		q := drawQuestion(&luck, 5)
		q.r, _ = resv.New(q.c.W * q.c.H)
		q.at = 0
		// Its own slots are nobody else's.
		for range luck.below(5) {
			q.r.Claim(q.robot, []resv.Want{{Cell: luck.below(q.r.Cells()), From: luck.below(50), To: 50 + luck.below(50)}})
		}
		moves, e := q.find()
		if e == api.OK {
			sound(t, q, moves)
			last := 0
			for _, m := range moves {
				if m.At != last {
					t.Fatalf("it waits: %v", moves)
				}
				last = m.End
			}
		}
		for _, by := range []int{1, 2, 30, 77, 1000, 1 << 40, end / 2, end - 100000} {
			q.at = by
			answers(t, q, later(moves, by), e)
		}
	}
}

// P12.3: slots that end by at are nobody's any more: they turn nothing.
func TestSlotsAheadOfAt(t *testing.T) {
	var luck chance = 47
	for range 300 {
		q := drawQuestion(&luck, 4)
		q.r, _ = resv.New(q.c.W * q.c.H)
		fill(&luck, q.r, 30, 0, 10)
		q.at = 30 + luck.below(3)
		moves, e := q.find()
		q.r, _ = resv.New(q.c.W * q.c.H)
		answers(t, q, moves, e)
	}
}

// P12.3: others' slots make no way earlier.
func TestMoreSlotsAreNoEarlier(t *testing.T) {
	var luck chance = 53
	over := func(q question, moves []api.Move) int {
		if len(moves) == 0 {
			return q.at
		}
		return moves[len(moves)-1].End
	}
	both := 0
	for range 400 {
		q := drawQuestion(&luck, 4)
		q.robot = 4
		q.r, _ = resv.New(q.c.W * q.c.H)
		was, e := q.find()
		for step := 0; e == api.OK && step < 6; step++ {
			fill(&luck, q.r, 4, q.at, 20)
			var moves []api.Move
			if moves, e = q.find(); e == api.OK {
				both++
				if over(q, moves) < over(q, was) {
					t.Fatalf("%v, ahead of it %v", moves, was)
				}
				was = moves
			}
		}
	}
	if both < 400 {
		t.Errorf("%d", both)
	}
}

// The example: the start is a goal with a free stretch to Forever.
func TestExample(t *testing.T) {
	for _, c := range []api.Conf{plainConf(2, 1), plainConf(1, 2), plainConf(3, 3), plainConf(16, 16)} {
		for _, p := range poses(c) {
			r, _ := resv.New(c.W * c.H)
			q := question{c: c, r: r, from: p, goal: to(p)}
			answers(t, q, nil, api.OK)
			q.goal.Any = true
			answers(t, q, nil, api.OK)
		}
	}
}
