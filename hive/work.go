package hive

import (
	"skep/api"
	"skep/book"
	"skep/plan"
	"skep/state"
)

// work begins what may be begun, plans who has nothing to do, and tells who may go on.
func (h *Hive) work() []api.Tele {
	h.begin()
	h.plan()
	return h.start()
}

// begin makes the orders active that can be served now.
func (h *Hive) begin() {
	for {
		id, _, ok := book.Next(h.conf, h.state)
		if !ok || h.happen(api.Event{Kind: api.EvBegin, A: id}) != api.OK {
			return
		}
	}
}

// aim is what a robot may be planned for: a job that is to be its own (0: it has it, or none), and its stops.
type aim struct {
	job   int
	stops []plan.Stop
}

// plan gives the robots moves that have none.
func (h *Hive) plan() {
robots:
	for i := range h.state.Robots {
		// All is asked anew for each: who is planned ahead of it has taken a job, and cells.
		aims := h.aims(i)
		if len(aims) == 0 {
			continue robots
		}
		t, _ := state.Table(h.conf, h.state)
		for _, a := range aims {
			moves, e := plan.Round(h.conf, t, i, h.state.Robots[i].At, h.now, a.stops, h.conf.Robots[i])
			if e != api.OK {
				continue
			}
			// The first way that there is counts, even if the event should be refused.
			h.happen(api.Event{Kind: api.EvPlan, A: i, B: a.job, Moves: moves})
			continue robots
		}
	}
}

// aims is what a robot may be planned for, one after the other; nothing, as long as it has moves.
func (h *Hive) aims(robot int) []aim {
	r := h.state.Robots[robot]
	switch {
	case len(r.Moves) > 0:
		return nil
	case r.Job != 0:
		return []aim{{stops: h.left(r)}}
	}
	var out []aim
	for j := range book.Ready(h.state) {
		out = append(out, aim{job: j.ID, stops: stops(j)})
	}
	// Who is home already would be given no moves.
	if r.At != h.conf.Robots[robot] {
		out = append(out, aim{})
	}
	return out
}

// left is the stops that a robot still has to make for its job.
func (h *Hive) left(r api.Robot) []plan.Stop {
	for _, j := range h.state.Jobs {
		if j.ID != r.Job {
			continue
		}
		if r.Load != 0 {
			return stops(j)[1:]
		}
		return stops(j)
	}
	return nil
}

// stops is where a job's bin is lifted and dropped.
func stops(j api.Job) []plan.Stop {
	return []plan.Stop{{At: j.From, Kind: api.Lift}, {At: j.To, Kind: api.Drop}}
}

// start gives the go-aheads whose time has come, one a robot.
func (h *Hive) start() []api.Tele {
	var told []api.Tele
robots:
	for i, r := range h.state.Robots {
		switch {
		case len(r.Moves) == 0 || r.Out || r.Moves[0].At > h.now:
			continue robots
		case !state.Turn(h.conf, h.state, i):
			continue robots
		case h.happen(api.Event{Kind: api.EvGo, A: i}) != api.OK:
			continue robots
		}
		told = append(told, h.send(api.Tele{Kind: api.TeGo, Robot: i, Epoch: h.state.Epoch, Num: h.state.Robots[i].Num, Move: r.Moves[0]}))
	}
	return told
}
