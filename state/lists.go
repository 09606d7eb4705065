package state

import (
	"slices"

	"skep/api"
)

// A state's lists are never written into: what is changed is a copy, made by cutting the old list's room off, so that appending has to take new memory. So a state that an event was refused in is still what it was, and states may share lists until one is told.

// own is a list in memory of its own.
func own[T any](l []T) []T {
	if len(l) == 0 {
		return nil
	}
	return append(l[:0:0], l...)
}

// with is a list with another item at a place.
func with[T any](l []T, i int, item T) []T {
	return append(append(l[:i:i], item), l[i+1:]...)
}

// without is a list without the item at a place.
func without[T any](l []T, i int) []T {
	return append(l[:i:i], l[i+1:]...)
}

// behind is a list with more items behind it.
func behind[T any](l []T, more ...T) []T {
	return append(l[:len(l):len(l)], more...)
}

// whole is a state all of whose lists are memory of its own.
func whole(s api.State) api.State {
	s.Stacks, s.Robots, s.Ports = own(s.Stacks), own(s.Robots), own(s.Ports)
	s.Orders, s.Jobs = own(s.Orders), own(s.Jobs)
	for i, l := range s.Stacks {
		s.Stacks[i].Bins = own(l.Bins)
	}
	for i, r := range s.Robots {
		s.Robots[i].Moves = own(r.Moves)
	}
	for i, p := range s.Ports {
		s.Ports[i].Queue = own(p.Queue)
	}
	return s
}

// stackAt is the place of a cell's stack, -1 if there is none.
func stackAt(l []api.Stack, at api.Cell) int {
	return slices.IndexFunc(l, func(s api.Stack) bool { return s.At == at })
}

// orderAt is the place of the order with that ID, -1 if there is none.
func orderAt(l []api.Order, id int) int {
	return slices.IndexFunc(l, func(o api.Order) bool { return o.ID == id })
}

// jobAt is the place of the job with that ID, -1 if there is none.
func jobAt(l []api.Job, id int) int {
	return slices.IndexFunc(l, func(j api.Job) bool { return j.ID == id })
}
