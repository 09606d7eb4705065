package codec

import (
	"skep/api"
)

// reader goes through bytes; it gives up by a panic with ErrBytes, so that what it reads needs no asking at each step.
type reader struct {
	b  []byte
	at int
}

// whole is the thing that get reads, if it is all that b holds: where the reader's giving up ends.
func whole[T any](b []byte, get func(*reader) T) (thing T, e api.Errno) {
	defer func() {
		// thing is still zero then: what was read so far is told to nobody.
		if recover() != nil {
			e = api.ErrBytes
		}
	}()
	r := &reader{b: b}
	read := get(r)
	if r.left() > 0 {
		giveUp()
	}
	return read, api.OK
}

// list reads how many, and so many items.
func list[T any](r *reader, item func() T) []T {
	n := r.number()
	if n < 0 || n > r.left() {
		giveUp()
	}
	// Room for n items ahead of reading them would let few bytes ask for much.
	var out []T
	for range n {
		out = append(out, item())
	}
	return out
}

// giveUp ends the reading.
func giveUp() {
	panic(api.ErrBytes)
}

// left is how many bytes were not read yet.
func (r *reader) left() int {
	return len(r.b) - r.at
}

// number reads a number.
func (r *reader) number() int {
	v, n := firstNumber(r.b[r.at:])
	if n == 0 {
		giveUp()
	}
	r.at += n
	return v
}

// flag reads a bool.
func (r *reader) flag() bool {
	if r.left() == 0 || r.b[r.at] > 1 {
		giveUp()
	}
	v := r.b[r.at] == 1
	r.at++
	return v
}

// numbers reads a list of numbers.
func (r *reader) numbers() []int {
	return list(r, func() int { return r.number() })
}

// cell reads a cell.
func (r *reader) cell() api.Cell {
	return api.Cell{X: r.number(), Y: r.number()}
}

// pose reads a pose.
func (r *reader) pose() api.Pose {
	return api.Pose{At: r.cell(), Down: r.flag()}
}

// move reads a move.
func (r *reader) move() api.Move {
	return api.Move{
		Kind: r.number(),
		Dir:  r.number(),
		N:    r.number(),
		From: r.pose(),
		To:   r.pose(),
		At:   r.number(),
		End:  r.number(),
	}
}

// moves reads a list of moves.
func (r *reader) moves() []api.Move {
	return list(r, func() api.Move { return r.move() })
}

// event reads an event.
func (r *reader) event() api.Event {
	return api.Event{
		Kind:  r.number(),
		A:     r.number(),
		B:     r.number(),
		Pose:  r.pose(),
		Moves: r.moves(),
	}
}

// tele reads a telegram.
func (r *reader) tele() api.Tele {
	return api.Tele{
		Kind:  r.number(),
		Robot: r.number(),
		Epoch: r.number(),
		Num:   r.number(),
		Move:  r.move(),
		Pose:  r.pose(),
		Load:  r.number(),
	}
}

// op reads an operation.
func (r *reader) op() api.Op {
	return api.Op{Kind: r.number(), A: r.number(), B: r.number()}
}

// state reads a state.
func (r *reader) state() api.State {
	return api.State{
		Seq:       r.number(),
		Epoch:     r.number(),
		Held:      r.flag(),
		Stacks:    r.stacks(),
		Robots:    r.robots(),
		Ports:     r.ports(),
		Orders:    r.orders(),
		Jobs:      r.jobs(),
		NextOrder: r.number(),
		NextJob:   r.number(),
	}
}

// stacks reads a list of stacks.
func (r *reader) stacks() []api.Stack {
	return list(r, func() api.Stack {
		return api.Stack{At: r.cell(), Bins: r.numbers()}
	})
}

// robots reads a list of robots.
func (r *reader) robots() []api.Robot {
	return list(r, func() api.Robot {
		return api.Robot{
			At:     r.pose(),
			Load:   r.number(),
			Job:    r.number(),
			Moves:  r.moves(),
			Out:    r.flag(),
			Num:    r.number(),
			Stands: r.flag(),
		}
	})
}

// ports reads a list of ports.
func (r *reader) ports() []api.Port {
	return list(r, func() api.Port {
		return api.Port{Bin: r.number(), Active: r.number(), Queue: r.numbers()}
	})
}

// orders reads a list of orders.
func (r *reader) orders() []api.Order {
	return list(r, func() api.Order {
		return api.Order{ID: r.number(), Bin: r.number(), Port: r.number(), State: r.number()}
	})
}

// jobs reads a list of jobs.
func (r *reader) jobs() []api.Job {
	return list(r, func() api.Job {
		return api.Job{
			ID:    r.number(),
			Kind:  r.number(),
			Order: r.number(),
			Bin:   r.number(),
			From:  r.cell(),
			To:    r.cell(),
			Robot: r.number(),
		}
	})
}
