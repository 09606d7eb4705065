package play_test

import (
	"bytes"
	"math"
	"reflect"
	"slices"
	"testing"

	"skep/api"
	"skep/disk"
	"skep/play"
	"skep/radio"
	"skep/state"
)

// chance is numbers that look like any, the same at each run.
type chance uint64

func (c *chance) below(n int) int {
	*c = *c*6364136223846793005 + 1442695040888963407
	return int(uint64(*c)>>33) % n
}

// ends is numbers near the ends of their range, and near powers of two.
func ends() []int {
	out := []int{math.MinInt, math.MinInt + 1, math.MaxInt - 1, math.MaxInt}
	for _, i := range []int{8, 16, 31, 32, 40, 61, 62} {
		out = append(out, 1<<i, 1<<i+1, -1<<i, -1<<i-1)
	}
	return out
}

func at(x, y int) api.Cell { return api.Cell{X: x, Y: y} }

// flat and down are poses to the east and to the south.
func flat(x, y int) api.Pose { return api.Pose{At: at(x, y)} }
func down(x, y int) api.Pose { return api.Pose{At: at(x, y), Down: true} }

// pile is a stack.
func pile(x, y int, bins ...int) api.Stack { return api.Stack{At: at(x, y), Bins: bins} }

// bare is a config of nothing but cells.
func bare(w, h int) api.Conf {
	return api.Conf{W: w, H: h, Height: 3, Unit: 10, Accel: 2, Speed: 4, Turn: 5, Hoist: 6, Queue: 2, Resend: 20, Budget: 5000}
}

// yard is a config with two robots and two ports:
//
//	0 s s s 1	the stacks: 7, 8, 9 at 1, 0; 5 at 2, 1; 4, 3 at 3, 1
//	s s s s s
//	h h s h h
func yard() api.Conf {
	c := bare(5, 3)
	c.Ports = []api.Cell{at(0, 0), at(4, 0)}
	c.Robots = []api.Pose{flat(0, 2), flat(3, 2)}
	c.Stacks = []api.Stack{pile(1, 0, 7, 8, 9), pile(2, 1, 5), pile(3, 1, 4, 3)}
	return c
}

// small is the config of DOC.md's first example: 4 by 2 cells, one robot, a port at 3, 0, bins 7, 8 at 1, 0.
func small() api.Conf {
	c := bare(4, 2)
	c.Ports = []api.Cell{at(3, 0)}
	c.Robots = []api.Pose{flat(0, 1)}
	c.Stacks = []api.Stack{pile(1, 0, 7, 8)}
	return c
}

// row is a config with so many robots, one beside the other to the south of two rows of stack cells.
func row(robots int) api.Conf {
	c := bare(16, 4)
	c.Ports = []api.Cell{at(0, 0)}
	c.Stacks = []api.Stack{pile(1, 0, 1, 2)}
	for i := range robots {
		c.Robots = append(c.Robots, down(i, 2))
	}
	return c
}

// Operations, in short.
func opTick() api.Op               { return api.Op{Kind: api.OpTick} }
func opOrder(bin, port int) api.Op { return api.Op{Kind: api.OpOrder, A: bin, B: port} }
func opDrain(port int) api.Op      { return api.Op{Kind: api.OpDrain, A: port} }
func opStop() api.Op               { return api.Op{Kind: api.OpStop} }
func opResume() api.Op             { return api.Op{Kind: api.OpResume} }
func opHear(i, again int) api.Op   { return api.Op{Kind: api.OpHear, A: i, B: again} }
func opLose(i int) api.Op          { return api.Op{Kind: api.OpLose, A: i} }
func opDelay(robot, n int) api.Op  { return api.Op{Kind: api.OpDelay, A: robot, B: n} }
func opCrash(a, b int) api.Op      { return api.Op{Kind: api.OpCrash, A: a, B: b} }
func opCheck() api.Op              { return api.Op{Kind: api.OpCheck} }

// Telegrams, in short.
func teStop(i, epoch int) api.Tele { return api.Tele{Kind: api.TeStop, Robot: i, Epoch: epoch} }

func teGo(i, epoch, num int, m api.Move) api.Tele {
	return api.Tele{Kind: api.TeGo, Robot: i, Epoch: epoch, Num: num, Move: m}
}
func teAck(i, epoch, num int) api.Tele {
	return api.Tele{Kind: api.TeAck, Robot: i, Epoch: epoch, Num: num}
}
func teHalt(i, epoch int, p api.Pose, load int) api.Tele {
	return api.Tele{Kind: api.TeHalt, Robot: i, Epoch: epoch, Pose: p, Load: load}
}

// stops is a stop for each robot.
func stops(c api.Conf, epoch int) []api.Tele {
	var out []api.Tele
	for i := range c.Robots {
		out = append(out, teStop(i, epoch))
	}
	return out
}

// remake is a thing with each list in it put anew, as list tells, in memory of its own.
func remake(v reflect.Value, list func(reflect.Value) reflect.Value) reflect.Value {
	switch v.Kind() {
	case reflect.Struct:
		out := reflect.New(v.Type()).Elem()
		for i := range v.NumField() {
			out.Field(i).Set(remake(v.Field(i), list))
		}
		return out
	case reflect.Slice:
		n := list(v)
		if n.IsNil() {
			return n
		}
		out := reflect.MakeSlice(v.Type(), n.Len(), n.Cap())
		for i := range n.Len() {
			out.Index(i).Set(remake(n.Index(i), list))
		}
		return out
	}
	return v
}

// tight is a thing in memory of its own whose lists are nil if they are empty.
func tight[T any](x T) T {
	return remake(reflect.ValueOf(x), func(v reflect.Value) reflect.Value {
		if v.Len() == 0 {
			return reflect.Zero(v.Type())
		}
		return v
	}).Interface().(T)
}

// same fails unless two things are one, but for empty lists.
func same[T any](t *testing.T, got, want T) {
	t.Helper()
	if !reflect.DeepEqual(tight(got), tight(want)) {
		t.Fatalf("got\n%+v\nwant\n%+v", got, want)
	}
}

// firstOf is a config's first state.
func firstOf(t *testing.T, c api.Conf) api.State {
	t.Helper()
	s, e := state.First(c)
	if e != api.OK {
		t.Fatalf("First of %+v: error %d", c, e)
	}
	return s
}

// under is what is under way.
func under(r *radio.Radio) []api.Tele {
	var out []api.Tele
	for _, t := range r.All() {
		out = append(out, t)
	}
	return out
}

// allOf is how a disk is with all that is pending done.
func allOf(d *disk.Disk) *disk.Disk {
	return d.Crash(math.MaxInt, math.MaxInt)
}

// alike fails unless two disks have the same, and the same pending.
func alike(t *testing.T, got, want *disk.Disk) {
	t.Helper()
	for file := range 2 {
		if got.Pending(file) != want.Pending(file) || !bytes.Equal(got.Read(file), want.Read(file)) {
			t.Fatalf("file %d: %d bytes, %d pending; want %d, %d", file, got.Size(file), got.Pending(file), want.Size(file), want.Pending(file))
		}
		if !bytes.Equal(got.Crash(0, 0).Read(file), want.Crash(0, 0).Read(file)) {
			t.Fatalf("file %d: other bytes are certain", file)
		}
	}
}

// made is a run at its beginning.
func made(t *testing.T, c api.Conf) *play.Run {
	t.Helper()
	r, e := play.New(c)
	if r == nil || e != api.OK {
		t.Fatalf("New of %+v: %v, error %d", c, r, e)
	}
	return r
}

// does fails unless all operations are taken.
func does(t *testing.T, r *play.Run, l ...api.Op) {
	t.Helper()
	for i, o := range l {
		if e := r.Do(o); e != api.OK {
			t.Fatalf("operation %d, %+v: error %d", i, o, e)
		}
	}
}

// flies fails unless just these telegrams are under way.
func flies(t *testing.T, r *play.Run, want ...api.Tele) {
	t.Helper()
	if l := under(r.Radio()); !slices.Equal(l, want) {
		t.Fatalf("under way are\n%+v\nwant\n%+v", l, want)
	}
}

// seen is a run's sights from a place on, without their ticks.
func seen(r *play.Run, from int) []api.Sight {
	l := r.World().Sights()[from:]
	for i := range l {
		l[i].Tick = 0
	}
	return l
}

// whole is all that can be told of a run.
type whole struct {
	State  api.State
	Now    int
	Sights []api.Sight
	Robots []one
	Bins   []int
	Stand  [][]int
	Under  []api.Tele
	Told   []api.Tele
	Files  [2][]byte
	Sure   [2][]byte
}

// one is a robot.
type one struct {
	pose  api.Pose
	load  int
	there bool
	move  api.Move
	moves bool
}

// wholeOf is all that can be told of a run of a config.
func wholeOf(c api.Conf, r *play.Run) whole {
	w, d := r.World(), r.Disk()
	out := whole{State: tight(r.State()), Now: w.Now(), Sights: tight(w.Sights()), Bins: w.Bins(), Under: under(r.Radio()), Told: tight(r.Told())}
	for i := -1; i <= len(c.Robots); i++ {
		var x one
		x.pose, x.load, x.there = w.Robot(i)
		x.move, x.moves = w.Under(i)
		out.Robots = append(out.Robots, x)
	}
	for y := range c.H {
		for x := range c.W {
			out.Stand = append(out.Stand, w.At(at(x, y)))
		}
	}
	for file := range 2 {
		out.Files[file], out.Sure[file] = d.Read(file), d.Crash(0, 0).Read(file)
	}
	return tightest(out)
}

// tightest is the same with empty lists as nil.
func tightest(w whole) whole {
	for i, l := range w.Stand {
		if len(l) == 0 {
			w.Stand[i] = nil
		}
	}
	for i := range 2 {
		w.Files[i], w.Sure[i] = bytes.Clone(w.Files[i]), bytes.Clone(w.Sure[i])
		if len(w.Files[i]) == 0 {
			w.Files[i] = nil
		}
		if len(w.Sure[i]) == 0 {
			w.Sure[i] = nil
		}
	}
	if len(w.Bins) == 0 {
		w.Bins = nil
	}
	return w
}

// stays fails unless a run is as it was.
func stays(t *testing.T, c api.Conf, r *play.Run, was whole) {
	t.Helper()
	if now := wholeOf(c, r); !reflect.DeepEqual(now, was) {
		t.Fatalf("it is\n%+v\nwas\n%+v", now, was)
	}
}

// refuses fails unless an operation is refused with this error, and nothing is turned by it.
func refuses(t *testing.T, c api.Conf, r *play.Run, o api.Op, want api.Errno) {
	t.Helper()
	was := wholeOf(c, r)
	if e := r.Do(o); e != want {
		t.Fatalf("%+v: error %d, want error %d", o, e, want)
	}
	stays(t, c, r, was)
}
