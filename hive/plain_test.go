package hive_test

import (
	"bytes"
	"math"
	"reflect"
	"slices"
	"testing"

	"skep/api"
	"skep/codec"
	"skep/disk"
	"skep/hive"
	"skep/state"
	"skep/store"
	"skep/wal"
)

// most is the greatest that Seq, Epoch, Num and NextJob may be.
const most = 1 << 40

// chance is numbers that look like any, the same at each run.
type chance uint64

func (c *chance) below(n int) int {
	*c = *c*6364136223846793005 + 1442695040888963407
	return int(uint64(*c)>>33) % n
}

// ends is numbers near the ends of their range, and near powers of two.
func ends() []int {
	out := []int{math.MinInt, math.MinInt + 1, math.MaxInt - 1, math.MaxInt}
	for _, i := range []int{8, 16, 31, 32, 40, 61, 62} {
		out = append(out, 1<<i, 1<<i+1, -1<<i, -1<<i-1)
	}
	return out
}

func at(x, y int) api.Cell { return api.Cell{X: x, Y: y} }

// flat and down are poses to the east and to the south.
func flat(x, y int) api.Pose { return api.Pose{At: at(x, y)} }
func down(x, y int) api.Pose { return api.Pose{At: at(x, y), Down: true} }

// pile is a stack.
func pile(x, y int, bins ...int) api.Stack { return api.Stack{At: at(x, y), Bins: bins} }

// bare is a config of nothing but cells.
func bare(w, h int) api.Conf {
	return api.Conf{W: w, H: h, Height: 3, Unit: 10, Accel: 2, Speed: 4, Turn: 5, Hoist: 6, Queue: 2, Resend: 20, Budget: 5000}
}

// yard is a config with two robots and two ports:
//
//	0 s s s 1	the stacks: 7, 8, 9 at 1, 0; 5 at 2, 1; 4, 3 at 3, 1
//	s s s s s
//	h h s h h
func yard() api.Conf {
	c := bare(5, 3)
	c.Ports = []api.Cell{at(0, 0), at(4, 0)}
	c.Robots = []api.Pose{flat(0, 2), flat(3, 2)}
	c.Stacks = []api.Stack{pile(1, 0, 7, 8, 9), pile(2, 1, 5), pile(3, 1, 4, 3)}
	return c
}

// small is the config of DOC.md's first example: 4 by 2 cells, one robot, a port at 3, 0, bins 7, 8 at 1, 0.
func small() api.Conf {
	c := bare(4, 2)
	c.Ports = []api.Cell{at(3, 0)}
	c.Robots = []api.Pose{flat(0, 1)}
	c.Stacks = []api.Stack{pile(1, 0, 7, 8)}
	return c
}

// halves is a config of two halves between which no robot can go, with a port, a robot and two bins in each:
//
//	0 s # s 1	the stacks: 1 at 0, 1; 2 at 1, 1; 3 at 3, 1; 4 at 4, 1
//	s s # s s
//	h h # h h
func halves() api.Conf {
	c := bare(5, 3)
	c.Blocked = []api.Cell{at(2, 0), at(2, 1), at(2, 2)}
	c.Ports = []api.Cell{at(0, 0), at(4, 0)}
	c.Robots = []api.Pose{flat(0, 2), flat(3, 2)}
	c.Stacks = []api.Stack{pile(0, 1, 1), pile(1, 1, 2), pile(3, 1, 3), pile(4, 1, 4)}
	return c
}

// unmanned is a config without robots, with a port and a bin.
func unmanned() api.Conf {
	c := bare(3, 2)
	c.Ports = []api.Cell{at(0, 0)}
	c.Stacks = []api.Stack{pile(1, 0, 4)}
	return c
}

// Events, in short.
func evOrder(bin, port int) api.Event { return api.Event{Kind: api.EvOrder, A: bin, B: port} }
func evBegin(order int) api.Event     { return api.Event{Kind: api.EvBegin, A: order} }
func evGo(robot int) api.Event        { return api.Event{Kind: api.EvGo, A: robot} }
func evDone(robot int) api.Event      { return api.Event{Kind: api.EvDone, A: robot} }
func evDrain(port int) api.Event      { return api.Event{Kind: api.EvDrain, A: port} }
func evStop() api.Event               { return api.Event{Kind: api.EvStop} }
func evResume() api.Event             { return api.Event{Kind: api.EvResume} }

func evPlan(robot, job int, moves []api.Move) api.Event {
	return api.Event{Kind: api.EvPlan, A: robot, B: job, Moves: moves}
}

func evHalt(robot, load int, p api.Pose) api.Event {
	return api.Event{Kind: api.EvHalt, A: robot, B: load, Pose: p}
}

// Operations, in short.
func opTick() api.Op               { return api.Op{Kind: api.OpTick} }
func opOrder(bin, port int) api.Op { return api.Op{Kind: api.OpOrder, A: bin, B: port} }
func opDrain(port int) api.Op      { return api.Op{Kind: api.OpDrain, A: port} }
func opStop() api.Op               { return api.Op{Kind: api.OpStop} }
func opResume() api.Op             { return api.Op{Kind: api.OpResume} }
func opCheck() api.Op              { return api.Op{Kind: api.OpCheck} }
func teAck(i, epoch, num int) api.Tele {
	return api.Tele{Kind: api.TeAck, Robot: i, Epoch: epoch, Num: num}
}
func teStop(i, epoch int) api.Tele { return api.Tele{Kind: api.TeStop, Robot: i, Epoch: epoch} }

// teGo is a go-ahead, teHalt is a robot's telling that it stands.
func teGo(i, epoch, num int, m api.Move) api.Tele {
	return api.Tele{Kind: api.TeGo, Robot: i, Epoch: epoch, Num: num, Move: m}
}
func teHalt(i, epoch int, p api.Pose, load int) api.Tele {
	return api.Tele{Kind: api.TeHalt, Robot: i, Epoch: epoch, Pose: p, Load: load}
}

// remake is a thing with each list in it put anew, as list tells, in memory of its own.
func remake(v reflect.Value, list func(reflect.Value) reflect.Value) reflect.Value {
	switch v.Kind() {
	case reflect.Struct:
		out := reflect.New(v.Type()).Elem()
		for i := range v.NumField() {
			out.Field(i).Set(remake(v.Field(i), list))
		}
		return out
	case reflect.Slice:
		n := list(v)
		if n.IsNil() {
			return n
		}
		out := reflect.MakeSlice(v.Type(), n.Len(), n.Cap())
		for i := range n.Len() {
			out.Index(i).Set(remake(n.Index(i), list))
		}
		return out
	}
	return v
}

// tight is a thing in memory of its own whose lists are nil if they are empty.
func tight[T any](x T) T {
	return remake(reflect.ValueOf(x), func(v reflect.Value) reflect.Value {
		if v.Len() == 0 {
			return reflect.Zero(v.Type())
		}
		return v
	}).Interface().(T)
}

// same fails unless two things are one, but for empty lists.
func same[T any](t *testing.T, got, want T) {
	t.Helper()
	if !reflect.DeepEqual(tight(got), tight(want)) {
		t.Fatalf("got\n%+v\nwant\n%+v", got, want)
	}
}

// firstOf is a config's first state.
func firstOf(t *testing.T, c api.Conf) api.State {
	t.Helper()
	s, e := state.First(c)
	if e != api.OK {
		t.Fatalf("First of %+v: error %d", c, e)
	}
	return s
}

// behindAll is the state behind events, each of which must be taken.
func behindAll(t *testing.T, c api.Conf, s api.State, l ...api.Event) api.State {
	t.Helper()
	for _, e := range l {
		next, f := state.Apply(c, s, e)
		if f != api.OK {
			t.Fatalf("%+v is refused: error %d; in\n%+v", e, f, s)
		}
		s = next
	}
	return s
}

// puts puts records into a disk's file, and makes them certain.
func puts(t *testing.T, d *disk.Disk, file int, records ...[]byte) {
	t.Helper()
	l, _, e := wal.Open(d, file)
	if e != api.OK {
		t.Fatal(e)
	}
	for _, b := range records {
		if e := l.Append(b); e != api.OK {
			t.Fatal(e)
		}
	}
	l.Sync()
}

// numbered is numbers' bytes, and bytes behind them.
func numbered(b []byte, numbers ...int) []byte {
	var out []byte
	for _, n := range numbers {
		out = codec.PutNumber(out, n)
	}
	return append(out, b...)
}

// written is a disk with a snapshot that stands for so many entries, and entries behind it.
func written(t *testing.T, snap []byte, from int, entries ...[]byte) *disk.Disk {
	t.Helper()
	records := [][]byte{numbered(snap, 1, from)}
	for i, b := range entries {
		records = append(records, numbered(b, from+1+i))
	}
	d := disk.New()
	puts(t, d, 0, records...)
	return d
}

// fill puts records into a disk's file 0 that the store passes over, till just so much room is left (of an emptier file).
func fill(t *testing.T, d *disk.Disk, room int) {
	t.Helper()
	l, _, e := wal.Open(d, 0)
	for left := api.MaxLog - room - d.Size(0); e == api.OK && left > 0; left = api.MaxLog - room - d.Size(0) {
		n := min(left-8, api.MaxRecord)
		// No record is shorter than 9 bytes.
		if rest := left - 8 - n; rest > 0 && rest < 9 {
			n -= 9
		}
		e = l.Append(make([]byte, n))
	}
	if e != api.OK {
		t.Fatal(e)
	}
	l.Sync()
}

// journal is events' bytes.
func journal(l ...api.Event) [][]byte {
	var out [][]byte
	for _, e := range l {
		out = append(out, codec.PutEvent(e))
	}
	return out
}

// allOf is how a disk is with all that is pending done.
func allOf(d *disk.Disk) *disk.Disk {
	return d.Crash(math.MaxInt, math.MaxInt)
}

// events is what a disk's journal says behind its snapshot, and the state that the snapshot says.
func events(t *testing.T, c api.Conf, d *disk.Disk) (api.State, []api.Event) {
	t.Helper()
	_, snap, entries, e := store.Open(allOf(d))
	if e != api.OK {
		t.Fatalf("store's Open: error %d", e)
	}
	s := firstOf(t, c)
	if len(snap) > 0 {
		if s, e = codec.GetState(snap); e != api.OK || !state.Check(c, s) {
			t.Fatalf("a snapshot that is none: %v", snap)
		}
	}
	var out []api.Event
	for _, b := range entries {
		x, e := codec.GetEvent(b)
		if e != api.OK {
			t.Fatalf("an entry that is none: %v", b)
		}
		out = append(out, x)
	}
	return s, out
}

// made is a hive over a disk that was not at work before; it fails, if there is none.
func made(t *testing.T, c api.Conf, d *disk.Disk, now int) *hive.Hive {
	t.Helper()
	h, l, e := hive.New(c, d, now)
	if h == nil || e != api.OK || len(l) != 0 {
		t.Fatalf("New: %v, %+v, error %d", h, l, e)
	}
	if h.Now() != now || h.Dead() {
		t.Fatalf("New at %d: %d, dead %v", now, h.Now(), h.Dead())
	}
	return h
}

// within is a hive in a state (its Seq must be 0), and its disk.
func within(t *testing.T, c api.Conf, s api.State, now int) (*hive.Hive, *disk.Disk) {
	t.Helper()
	if s.Seq != 0 || !state.Check(c, s) {
		t.Fatalf("no state to begin in: %+v", s)
	}
	d := written(t, codec.PutState(s), 0)
	h := made(t, c, d, now)
	same(t, h.State(), s)
	return h, d
}

// stopped is a hive over a disk that was at work before, with what it tells; it fails unless that is a stop of an epoch, and certain.
func stopped(t *testing.T, c api.Conf, d *disk.Disk, now, epoch int) *hive.Hive {
	t.Helper()
	h, l, e := hive.New(c, d, now)
	if h == nil || e != api.OK || h.Now() != now || h.Dead() {
		t.Fatalf("New: %v, %+v, error %d", h, l, e)
	}
	if !slices.Equal(l, stops(c, epoch)) || h.State().Epoch != epoch || !h.State().Held {
		t.Fatalf("New tells %+v, epoch %d, held %v; want epoch %d", l, h.State().Epoch, h.State().Held, epoch)
	}
	if d.Pending(0) != 0 || d.Pending(1) != 0 {
		t.Fatalf("New leaves %d, %d pending", d.Pending(0), d.Pending(1))
	}
	return h
}

// stops is a stop for each robot.
func stops(c api.Conf, epoch int) []api.Tele {
	var out []api.Tele
	for i := range c.Robots {
		out = append(out, teStop(i, epoch))
	}
	return out
}

// does fails unless an operation is taken, and tells just this.
func does(t *testing.T, h *hive.Hive, o api.Op, want ...api.Tele) {
	t.Helper()
	if l, e := h.Do(o); e != api.OK || !slices.Equal(l, want) {
		t.Fatalf("%+v: error %d\n%+v\nwant\n%+v", o, e, l, want)
	}
}

// refuses fails unless an operation is refused with this error, and nothing is turned by it.
func refuses(t *testing.T, h *hive.Hive, d *disk.Disk, o api.Op, want api.Errno) {
	t.Helper()
	s, now, files := h.State(), h.Now(), []*disk.Disk{d.Crash(0, 0), allOf(d)}
	if l, e := h.Do(o); e != want || len(l) != 0 {
		t.Fatalf("%+v: error %d, %+v, want error %d", o, e, l, want)
	}
	same(t, h.State(), s)
	if h.Now() != now || h.Dead() {
		t.Fatalf("%+v: now %d, dead %v", o, h.Now(), h.Dead())
	}
	alike(t, d.Crash(0, 0), files[0])
	alike(t, allOf(d), files[1])
}

// hears fails unless a telegram is taken.
func hears(t *testing.T, h *hive.Hive, l ...api.Tele) {
	t.Helper()
	for _, x := range l {
		if !h.Hear(x) {
			t.Fatalf("not taken: %+v; in\n%+v", x, h.State())
		}
	}
}

// ignores fails if a telegram is taken, or if it turns anything.
func ignores(t *testing.T, h *hive.Hive, d *disk.Disk, l ...api.Tele) {
	t.Helper()
	for _, x := range l {
		s, pending := h.State(), d.Pending(0)+d.Pending(1)
		if h.Hear(x) {
			t.Fatalf("taken: %+v; in\n%+v", x, s)
		}
		same(t, h.State(), s)
		if d.Pending(0)+d.Pending(1) != pending {
			t.Fatalf("%+v is written down", x)
		}
	}
}

// alike fails unless two disks have the same, and the same pending.
func alike(t *testing.T, got, want *disk.Disk) {
	t.Helper()
	for file := range 2 {
		if got.Pending(file) != want.Pending(file) || !bytes.Equal(got.Read(file), want.Read(file)) {
			t.Fatalf("file %d: %d bytes, %d pending; want %d, %d", file, got.Size(file), got.Pending(file), want.Size(file), want.Pending(file))
		}
	}
}

// turned is a state of which something is turned.
func turned(s api.State, turn func(s *api.State)) api.State {
	n := tight(s)
	turn(&n)
	return n
}
