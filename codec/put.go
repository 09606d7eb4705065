package codec

import (
	"skep/api"
)

// putNumbers appends numbers to b, one behind the other.
func putNumbers(b []byte, vs ...int) []byte {
	for _, v := range vs {
		b = putNumber(b, v)
	}
	return b
}

// putBool appends a bool to b.
func putBool(b []byte, v bool) []byte {
	if v {
		return append(b, 1)
	}
	return append(b, 0)
}

// putList appends a list to b, each item by put.
func putList[T any](b []byte, items []T, put func([]byte, T) []byte) []byte {
	b = putNumber(b, len(items))
	for _, v := range items {
		b = put(b, v)
	}
	return b
}

// putCell appends a cell to b.
func putCell(b []byte, c api.Cell) []byte {
	return putNumbers(b, c.X, c.Y)
}

// putPose appends a pose to b.
func putPose(b []byte, p api.Pose) []byte {
	b = putCell(b, p.At)
	return putBool(b, p.Down)
}

// putMove appends a move to b.
func putMove(b []byte, m api.Move) []byte {
	b = putNumbers(b, m.Kind, m.Dir, m.N)
	b = putPose(b, m.From)
	b = putPose(b, m.To)
	return putNumbers(b, m.At, m.End)
}

// putEvent appends an event to b.
func putEvent(b []byte, e api.Event) []byte {
	b = putNumbers(b, e.Kind, e.A, e.B)
	b = putPose(b, e.Pose)
	return putList(b, e.Moves, putMove)
}

// putTele appends a telegram to b.
func putTele(b []byte, t api.Tele) []byte {
	b = putNumbers(b, t.Kind, t.Robot, t.Epoch, t.Num)
	b = putMove(b, t.Move)
	b = putPose(b, t.Pose)
	return putNumber(b, t.Load)
}

// putOp appends an operation to b.
func putOp(b []byte, o api.Op) []byte {
	return putNumbers(b, o.Kind, o.A, o.B)
}

// putState appends a state to b.
func putState(b []byte, s api.State) []byte {
	b = putNumbers(b, s.Seq, s.Epoch)
	b = putBool(b, s.Held)
	b = putList(b, s.Stacks, putStack)
	b = putList(b, s.Robots, putRobot)
	b = putList(b, s.Ports, putPort)
	b = putList(b, s.Orders, putOrder)
	b = putList(b, s.Jobs, putJob)
	return putNumbers(b, s.NextOrder, s.NextJob)
}

// putStack appends a stack to b.
func putStack(b []byte, s api.Stack) []byte {
	b = putCell(b, s.At)
	return putList(b, s.Bins, putNumber)
}

// putRobot appends a robot to b.
func putRobot(b []byte, r api.Robot) []byte {
	b = putPose(b, r.At)
	b = putNumbers(b, r.Load, r.Job)
	b = putList(b, r.Moves, putMove)
	b = putBool(b, r.Out)
	b = putNumber(b, r.Num)
	return putBool(b, r.Stands)
}

// putPort appends a port to b.
func putPort(b []byte, p api.Port) []byte {
	b = putNumbers(b, p.Bin, p.Active)
	return putList(b, p.Queue, putNumber)
}

// putOrder appends an order to b.
func putOrder(b []byte, o api.Order) []byte {
	return putNumbers(b, o.ID, o.Bin, o.Port, o.State)
}

// putJob appends a job to b.
func putJob(b []byte, j api.Job) []byte {
	b = putNumbers(b, j.ID, j.Kind, j.Order, j.Bin)
	b = putCell(b, j.From)
	b = putCell(b, j.To)
	return putNumber(b, j.Robot)
}
