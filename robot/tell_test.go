package robot_test

import (
	"testing"

	"skep/api"
	"skep/robot"
)

// P18.4: in the epoch 0 it is TeAck with the last number, from 0 on, and nothing else in it; while a move is under way that is the one ahead of it.
func TestTellAck(t *testing.T) {
	for i, p := range yard().Robots {
		r := made(t, yard(), i)
		r.Carry(9)
		for num := range 5 {
			want := api.Tele{Kind: api.TeAck, Robot: i, Num: num}
			tells(t, r, want)
			x := goes(0, num+1, lifts(p, 3))
			x.Robot = i
			hears(t, r, x, robot.Began)
			tells(t, r, want)
			rests(t, r, 2)
			tells(t, r, want)
			ticksTo(t, r, 1, robot.Done, lifts(p, 3))
		}
	}
}

// P18.4: behind a TeStop it is TeHalt, at one that stands, again and again.
func TestTellBehindStop(t *testing.T) {
	for i, p := range yard().Robots {
		r := made(t, yard(), i)
		r.Carry(3)
		x := stops(4)
		x.Robot = i
		want := api.Tele{Kind: api.TeHalt, Robot: i, Epoch: 4, Pose: p, Load: 3}
		hears(t, r, x, robot.Stood, want)
		for range 3 {
			tells(t, r, want)
			rests(t, r, 1)
		}
	}
}

// P18.4: behind a TeStop while a move is under way it is TeHalt with the pose that it has till then; behind Halted with the one at which it stands.
func TestTellBehindHalted(t *testing.T) {
	r := made(t, yard(), 0)
	r.Carry(3)
	m := runs(to(0, 0), api.East, 3, 9)
	hears(t, r, goes(0, 1, m), robot.Began)
	rests(t, r, 2)
	tells(t, r, acks(0, 0))
	hears(t, r, stops(2), robot.Nothing)
	tells(t, r, halts(2, to(0, 0), 3))
	rests(t, r, 1)
	tells(t, r, halts(2, to(0, 0), 3))
	ticksTo(t, r, 1, robot.Halted, cutTo(m, 1))
	tells(t, r, halts(2, to(1, 0), 3))
	r.Carry(8)
	tells(t, r, halts(2, to(1, 0), 8))
}

// P18.4: behind a go-ahead that was done in the new epoch it is TeAck again; while the first one is under way, still TeHalt.
func TestTellInTheNewEpoch(t *testing.T) {
	r := made(t, yard(), 0)
	does(t, r, 1, lifts(to(0, 0), 2))
	r.Carry(5)
	for epoch := 1; epoch < 4; epoch++ {
		hears(t, r, stops(epoch), robot.Stood, halts(epoch, to(0, 0), 5))
		hears(t, r, goes(epoch, 1, lifts(to(0, 0), 2)), robot.Began)
		tells(t, r, halts(epoch, to(0, 0), 5))
		rests(t, r, 1)
		tells(t, r, halts(epoch, to(0, 0), 5))
		ticksTo(t, r, 1, robot.Done, lifts(to(0, 0), 2))
		tells(t, r, acks(epoch, 1))
		does(t, r, 2, drops(to(0, 0), 2))
		tells(t, r, acks(epoch, 2))
	}
}

// P18.4: a robot that stood in the epoch 0 alone never tells TeHalt; a stop that was for another, or was older, turns nothing of that.
func TestTellWithoutAStop(t *testing.T) {
	r := made(t, yard(), 1)
	for _, epoch := range []int{1, 2, 7} {
		passes(t, r, stops(epoch), robot.Nothing)
	}
	x := stops(0)
	x.Robot = 1
	passes(t, r, x, robot.Nothing)
	tells(t, r, api.Tele{Kind: api.TeAck, Robot: 1})
}
