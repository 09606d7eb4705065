package route

import (
	"cmp"
	"slices"

	"skep/api"
	"skep/grid"
	"skep/heap"
	"skep/kinem"
	"skep/resv"
	"skep/tick"
)

// state is a pose, by its number, and one of its free stretches, reached at a tick.
type state struct {
	at, pose, stretch int
}

// place is what the search knows of a pose: its free stretches, and how each of them is reached. It is filled when it is first asked for, as most searches come to few poses.
type place struct {
	known bool
	free  []stretch
	ways  []way
}

// way is how a state is reached earliest, so far: by a move that ends there (of the start it has no Kind).
type way struct {
	move           api.Move
	reached, taken bool
}

// search is one robot's search for a goal.
type search struct {
	c       api.Conf
	g       *grid.Grid
	k       *kinem.Kin
	t       *resv.Table
	robot   int
	places  []place
	waiting *heap.Heap[state]
}

// newSearch is one that has reached nothing yet.
func newSearch(c api.Conf, g *grid.Grid, t *resv.Table, robot int) *search {
	// A config that may be has none of the numbers that kinem refuses.
	k, _ := kinem.New(c.Unit, c.Accel, c.Speed)
	return &search{c: c, g: g, k: k, t: t, robot: robot, places: make([]place, 2*t.Cells()), waiting: heap.New(ahead)}
}

// ahead tells which of two states is taken first.
func ahead(a, b state) bool {
	return cmp.Or(cmp.Compare(a.at, b.at), cmp.Compare(a.pose, b.pose), cmp.Compare(a.stretch, b.stretch)) < 0
}

// begin reaches the start, and tells whether the pose is free then.
func (s *search) begin(from api.Pose, at int) bool {
	start, ok := s.state(from, at)
	if ok {
		s.reach(start, api.Move{From: from, To: from, At: at, End: at})
	}
	return ok
}

// lead is the moves that lead to a goal.
func (s *search) lead(goal Goal) ([]api.Move, api.Errno) {
	var moves []api.Move
	// What is told, if Budget is spent and the loop not left ahead of it.
	e := api.ErrBudget
search:
	for range s.c.Budget {
		now, ok := s.take()
		switch {
		case !ok:
			e = api.ErrRoute
			break search
		case s.ends(now, goal):
			moves, e = s.back(now), api.OK
			break search
		}
		s.spread(now)
	}
	return moves, e
}

// take takes the state that is reached first; false, if none is left.
func (s *search) take() (state, bool) {
	for {
		now, ok := s.waiting.Pop()
		if !ok {
			return state{}, false
		}
		// A state that was reached anew, and earlier, waits once more.
		if w := s.way(now); !w.taken {
			w.taken = true
			return now, true
		}
	}
}

// ends tells whether a state is a goal: the robot may stand there for ever.
func (s *search) ends(now state, goal Goal) bool {
	return goal.met(s.way(now).move.To) && s.places[now.pose].free[now.stretch].to == api.Forever
}

// back is the moves that lead from the start to a state.
func (s *search) back(now state) []api.Move {
	var out []api.Move
	for m := s.way(now).move; m.Kind != 0; m = s.way(now).move {
		out = append(out, m)
		// The state that it came from is the one that has its departure.
		now, _ = s.state(m.From, m.At)
	}
	slices.Reverse(out)
	return out
}

// spread notes all that can be reached from a state.
func (s *search) spread(now state) {
	var free []stretch
	for m := range s.g.Moves(s.way(now).move.To) {
		// What lies ahead of now counts for no move. A run that is no direction's first goes on from the one ahead of it, and so do its free stretches: it sweeps one pose more.
		if m.N <= 1 {
			free = []stretch{{now.at, s.places[now.pose].free[now.stretch].to}}
		}
		free = shared(free, s.place(s.farthest(m)).free)
		lasts := Lasts(s.c, s.k, m)
		for from, to := range each(free) {
			m.At, m.End = from, tick.Sum(from, lasts)
			if m.End <= to && m.End < api.Forever {
				s.note(m)
			}
		}
	}
}

// farthest is the pose that a move sweeps beyond what the run that is shorter by a cell sweeps, or beyond the pose itself. Of a turn that is not To but the pose beside: both together are the four cells.
func (s *search) farthest(m api.Move) api.Pose {
	if m.Kind != api.Turn {
		return m.To
	}
	dir := api.South
	if m.From.Down {
		dir = api.East
	}
	beside, _ := s.g.Shift(m.From, dir, 1)
	return beside
}

// note notes a move, if it ends where the pose is free, and nothing leads there as early.
func (s *search) note(m api.Move) {
	to, ok := s.state(m.To, m.End)
	if !ok {
		return
	}
	if w := s.way(to); !w.reached || m.End < w.move.End {
		s.reach(to, m)
	}
}

// reach lets a state wait, reached by a move.
func (s *search) reach(to state, m api.Move) {
	*s.way(to) = way{move: m, reached: true}
	s.waiting.Push(to)
}

// state is a pose with its free stretch that has a tick, reached at that tick; false, if it is not free then.
func (s *search) state(p api.Pose, at int) (state, bool) {
	i, ok := holding(s.place(p).free, at)
	if !ok {
		return state{}, false
	}
	return state{at: at, pose: s.number(p), stretch: i}, true
}

// way is how a state is reached, to be read and written.
func (s *search) way(of state) *way {
	return &s.places[of.pose].ways[of.stretch]
}

// place is what is known of a pose.
func (s *search) place(p api.Pose) *place {
	at := &s.places[s.number(p)]
	if !at.known {
		free := listed(Free(s.g, s.t, s.robot, s.g.Cells(p)))
		*at = place{known: true, free: free, ways: make([]way, len(free))}
	}
	return at
}

// number is a pose's.
func (s *search) number(p api.Pose) int {
	n := 2 * s.g.Number(p.At)
	if p.Down {
		n++
	}
	return n
}
