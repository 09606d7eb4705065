package state_test

import (
	"slices"

	"skep/api"
	"skep/grid"
	"skep/kinem"
	"skep/plan"
	"skep/route"
)

// plainCheck is whether a state may be, by the chapter's words.
func plainCheck(c api.Conf, s api.State) bool {
	return grid.May(c) && len(s.Robots) == len(c.Robots) && len(s.Ports) == len(c.Ports) &&
		plainBins(c, s) && plainRobots(c, s) && plainOrders(c, s) && plainJobs(c, s) && plainWork(s) && plainHolds(c, s)
}

func within(n, least, greatest int) bool { return n >= least && n <= greatest }

// bins is the config's.
func bins(c api.Conf) []int {
	var out []int
	for _, l := range c.Stacks {
		out = append(out, l.Bins...)
	}
	return out
}

func plainBins(c api.Conf, s api.State) bool {
	want, got := bins(c), []int{}
	cells := plainFirst(c).Stacks
	if len(cells) != len(s.Stacks) {
		return false
	}
	for i, l := range s.Stacks {
		if l.At != cells[i].At || len(l.Bins) > c.Height || slices.Contains(l.Bins, 0) {
			return false
		}
		got = append(got, l.Bins...)
	}
	for _, p := range s.Ports {
		got = append(got, p.Bin)
	}
	for _, r := range s.Robots {
		got = append(got, r.Load)
	}
	got = slices.DeleteFunc(got, func(b int) bool { return b == 0 })
	for _, b := range want {
		i := slices.Index(got, b)
		if i < 0 {
			return false
		}
		got = slices.Delete(got, i, i+1)
	}
	return len(got) == 0
}

func plainRobots(c api.Conf, s api.State) bool {
	if !within(s.Seq, 0, most) || !within(s.Epoch, 0, most) {
		return false
	}
	g, _ := grid.New(c)
	k, _ := kinem.New(c.Unit, c.Accel, c.Speed)
	for _, r := range s.Robots {
		if !within(r.Num, 0, most) || !g.Fits(r.At) || len(r.Moves) > 4096 || !plan.Right(c, k, r.At, r.Moves) {
			return false
		}
		if r.Out && len(r.Moves) == 0 || r.Stands && !s.Held {
			return false
		}
		if s.Held && r.Stands && (len(r.Moves) > 0 || r.Num != 0) {
			return false
		}
		if s.Held && !r.Stands && (len(r.Moves) > 1 || len(r.Moves) == 1 && !r.Out) {
			return false
		}
	}
	return true
}

func plainOrders(c api.Conf, s api.State) bool {
	queues, actives := make([][]int, len(c.Ports)), make([][]int, len(c.Ports))
	asked := map[int]int{}
	for i, o := range s.Orders {
		if o.ID != i+1 || !within(o.Port, 0, len(c.Ports)-1) || !within(o.State, 0, 2) || !slices.Contains(bins(c), o.Bin) {
			return false
		}
		switch o.State {
		case api.Waiting:
			queues[o.Port] = append(queues[o.Port], o.ID)
			asked[o.Bin]++
		case api.Active:
			actives[o.Port] = append(actives[o.Port], o.ID)
			asked[o.Bin]++
		}
		if asked[o.Bin] > 1 {
			return false
		}
	}
	for p, port := range s.Ports {
		if !slices.Equal(port.Queue, queues[p]) || len(port.Queue) > c.Queue || len(actives[p]) > 1 {
			return false
		}
		if len(actives[p]) == 0 && port.Active != 0 || len(actives[p]) == 1 && port.Active != actives[p][0] {
			return false
		}
	}
	return s.NextOrder == len(s.Orders)+1 && s.NextOrder <= 4097
}

func plainJobs(c api.Conf, s api.State) bool {
	g, _ := grid.New(c)
	last := 0
	fetched := map[int]int{}
	for _, j := range s.Jobs {
		if j.ID <= last || j.ID >= s.NextJob || !slices.Contains(bins(c), j.Bin) || !g.Open(j.From) || !g.Open(j.To) || j.From == j.To {
			return false
		}
		last = j.ID
		if !within(j.Kind, 1, 4) || !within(j.Order, 0, len(s.Orders)) || j.Order == 0 && j.Kind != api.Return {
			return false
		}
		if j.Kind == api.Fetch {
			o := s.Orders[j.Order-1]
			fetched[o.ID]++
			if fetched[o.ID] > 1 || o.State != api.Active || o.Bin != j.Bin || c.Ports[o.Port] != j.To {
				return false
			}
		}
	}
	return within(s.NextJob, 1, most)
}

func plainWork(s api.State) bool {
	for _, j := range s.Jobs {
		if j.Robot != -1 && (!within(j.Robot, 0, len(s.Robots)-1) || s.Robots[j.Robot].Job != j.ID) {
			return false
		}
	}
	for i, r := range s.Robots {
		j, ok := jobOf(s, r.Job)
		if r.Job != 0 && (!ok || j.Robot != i) || r.Load != 0 && (!ok || r.Load != j.Bin) {
			return false
		}
	}
	return true
}

func plainHolds(c api.Conf, s api.State) bool {
	if _, ok := plainTable(c, s, -1); !ok {
		return false
	}
	for i, r := range s.Robots {
		if r.Out && !plainTurn(c, s, i) {
			return false
		}
	}
	return true
}

// lasts is how long a move takes.
func lasts(c api.Conf, m api.Move) int {
	k, _ := kinem.New(c.Unit, c.Accel, c.Speed)
	return route.Lasts(c, k, m)
}
