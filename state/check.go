package state

import (
	"slices"

	"skep/api"
	"skep/plan"
)

// Check tells whether a state may be.
func Check(c api.Conf, s api.State) bool {
	h, e := newHall(c)
	if e != api.OK || len(s.Robots) != len(c.Robots) || len(s.Ports) != len(c.Ports) {
		return false
	}
	bins := given(c)
	// Each of these may lean on those ahead of it.
	return numbersFit(s) && h.stacksFit(s.Stacks) && slices.Equal(seen(s), bins) && h.robotsFit(s) &&
		h.ordersFit(s, bins) && h.portsFit(s) && h.jobsFit(s, bins) && fetchesFit(s.Jobs) && workFits(s) && h.inOrder(s.Robots)
}

// given is the config's bins, rising.
func given(c api.Conf) []int {
	var out []int
	for _, l := range c.Stacks {
		out = append(out, l.Bins...)
	}
	slices.Sort(out)
	return out
}

// seen is the bins in stacks, at ports and on robots, rising.
func seen(s api.State) []int {
	var out []int
	for _, l := range s.Stacks {
		out = append(out, l.Bins...)
	}
	// Of a port and a robot 0 means that there is none; in a stack it is a bin that no config has.
	for _, p := range s.Ports {
		if p.Bin != 0 {
			out = append(out, p.Bin)
		}
	}
	for _, r := range s.Robots {
		if r.Load != 0 {
			out = append(out, r.Load)
		}
	}
	slices.Sort(out)
	return out
}

// known tells whether a bin is among the config's.
func known(bins []int, bin int) bool {
	_, ok := slices.BinarySearch(bins, bin)
	return ok
}

// numbersFit tells whether what is counted is in its range.
func numbersFit(s api.State) bool {
	counted := []int{s.Seq, s.Epoch}
	for _, r := range s.Robots {
		counted = append(counted, r.Num)
	}
	return slices.Min(counted) >= 0 && slices.Max(counted) <= top &&
		s.NextOrder >= 1 && s.NextOrder <= api.MaxOrders+1 && s.NextJob >= 1 && s.NextJob <= top
}

// stacksFit tells whether they stand on the stack cells, in order, none too high.
func (h hall) stacksFit(l []api.Stack) bool {
	for at := range h.g.Stacks() {
		if len(l) == 0 || l[0].At != at || len(l[0].Bins) > h.c.Height {
			return false
		}
		l = l[1:]
	}
	return len(l) == 0
}

// robotsFit tells whether each robot can stand where it does, and do its moves from there.
func (h hall) robotsFit(s api.State) bool {
	for _, r := range s.Robots {
		if !h.g.Fits(r.At) || len(r.Moves) > api.MaxMoves || !plan.Right(h.c, h.k, r.At, r.Moves) || !goesFit(s.Held, r) {
			return false
		}
	}
	return true
}

// goesFit tells whether a robot may be Out or stand, with the moves that it has.
func goesFit(held bool, r api.Robot) bool {
	n := len(r.Moves)
	switch {
	case r.Out && n == 0:
		return false
	case !held:
		return !r.Stands
	case r.Stands:
		return n == 0 && r.Num == 0
	}
	return n == 0 || n == 1 && r.Out
}

// ordersFit tells whether the orders may be, without asking the ports.
func (h hall) ordersFit(s api.State, bins []int) bool {
	if len(s.Orders) != s.NextOrder-1 {
		return false
	}
	var open []int
	for i, o := range s.Orders {
		if o.ID != i+1 || !known(bins, o.Bin) || o.Port < 0 || o.Port >= len(h.c.Ports) {
			return false
		}
		switch o.State {
		case api.Waiting, api.Active:
			open = append(open, o.Bin)
		case api.Delivered:
		default:
			return false
		}
	}
	return differ(open)
}

// portsFit tells whether the ports have just the orders that wait and are active there.
func (h hall) portsFit(s api.State) bool {
	for i, p := range s.Ports {
		var active []int
		if p.Active != 0 {
			active = []int{p.Active}
		}
		if len(p.Queue) > h.c.Queue || !slices.Equal(p.Queue, ordersOf(s, i, api.Waiting)) || !slices.Equal(active, ordersOf(s, i, api.Active)) {
			return false
		}
	}
	return true
}

// ordersOf is the IDs of a port's orders that are in a state.
func ordersOf(s api.State, port, state int) []int {
	var out []int
	for _, o := range s.Orders {
		if o.Port == port && o.State == state {
			out = append(out, o.ID)
		}
	}
	return out
}

// jobsFit tells whether each job may be.
func (h hall) jobsFit(s api.State, bins []int) bool {
	last := 0
	for _, j := range s.Jobs {
		switch {
		case j.ID <= last || j.ID >= s.NextJob:
			return false
		case j.Kind < api.Away || j.Kind > api.Return || !known(bins, j.Bin):
			return false
		case !h.g.Open(j.From) || !h.g.Open(j.To) || j.From == j.To:
			return false
		case !h.orderFits(s.Orders, j):
			return false
		case j.Robot != nobody && (!there(s, j.Robot) || s.Robots[j.Robot].Job != j.ID):
			return false
		}
		last = j.ID
	}
	return true
}

// orderFits tells whether a job may be one of its order.
func (h hall) orderFits(orders []api.Order, j api.Job) bool {
	if j.Order == 0 {
		return j.Kind == api.Return
	}
	if j.Order < 0 || j.Order > len(orders) {
		return false
	}
	// Their IDs are 1 and so on.
	o := orders[j.Order-1]
	return j.Kind != api.Fetch || o.State == api.Active && o.Bin == j.Bin && h.c.Ports[o.Port] == j.To
}

// fetchesFit tells whether no order is fetched twice.
func fetchesFit(jobs []api.Job) bool {
	var fetched []int
	for _, j := range jobs {
		if j.Kind == api.Fetch {
			fetched = append(fetched, j.Order)
		}
	}
	return differ(fetched)
}

// workFits tells whether each robot's job is its own, and its load that job's bin.
func workFits(s api.State) bool {
robots:
	for i, r := range s.Robots {
		if r.Job == 0 {
			if r.Load != 0 {
				return false
			}
			continue
		}
		for _, j := range s.Jobs {
			if j.ID == r.Job && j.Robot == i && (r.Load == 0 || r.Load == j.Bin) {
				continue robots
			}
		}
		return false
	}
	return true
}

// differ tells whether no number is twice in a list, which is sorted on the spot.
func differ(l []int) bool {
	slices.Sort(l)
	return len(slices.Compact(l)) == len(l)
}
