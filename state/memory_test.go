package state_test

import (
	"reflect"
	"slices"
	"testing"

	"skep/api"
	"skep/state"
)

// asked is all that the calls are handed.
type asked struct {
	C api.Conf
	S api.State
	L []api.Event
}

// remake is a thing with each list in it put anew, as list tells, in memory of its own.
func remake(v reflect.Value, list func(reflect.Value) reflect.Value) reflect.Value {
	switch v.Kind() {
	case reflect.Struct:
		out := reflect.New(v.Type()).Elem()
		for i := range v.NumField() {
			out.Field(i).Set(remake(v.Field(i), list))
		}
		return out
	case reflect.Slice:
		n := list(v)
		out := reflect.MakeSlice(v.Type(), n.Len(), n.Cap())
		for i := range n.Len() {
			out.Index(i).Set(remake(n.Index(i), list))
		}
		if n.IsNil() {
			return n
		}
		return out
	}
	return v
}

// deep is a thing with the same in lists of its own, each with spare room.
func deep[T any](x T) T {
	return remake(reflect.ValueOf(x), func(v reflect.Value) reflect.Value {
		out := reflect.MakeSlice(v.Type(), v.Len(), v.Len()+3)
		reflect.Copy(out, v)
		return out
	}).Interface().(T)
}

// whole is a copy of a thing with its lists' spare room laid open.
func whole[T any](x T) T {
	return remake(reflect.ValueOf(x), func(v reflect.Value) reflect.Value { return v.Slice(0, v.Cap()) }).Interface().(T)
}

// tight is a thing whose lists are nil if they are empty, loose one whose are not.
func tight[T any](x T) T {
	return remake(reflect.ValueOf(x), func(v reflect.Value) reflect.Value {
		if v.Len() == 0 {
			return reflect.Zero(v.Type())
		}
		return v
	}).Interface().(T)
}

func loose[T any](x T) T {
	return remake(reflect.ValueOf(x), func(v reflect.Value) reflect.Value {
		if v.IsNil() {
			return reflect.MakeSlice(v.Type(), 0, 0)
		}
		return v
	}).Interface().(T)
}

// spoilAll writes over all that a thing's lists have, spare room too.
func spoilAll(v reflect.Value) {
	switch v.Kind() {
	case reflect.Struct:
		for i := range v.NumField() {
			spoilAll(v.Field(i))
		}
	case reflect.Slice:
		v = v.Slice(0, v.Cap())
		for i := range v.Len() {
			spoilAll(v.Index(i))
			if v.Index(i).Kind() == reflect.Int {
				v.Index(i).SetInt(-77)
			} else {
				v.Index(i).SetZero()
			}
		}
	}
}

// told is what all calls tell.
type told struct {
	First  api.State
	Err    api.Errno
	Check  bool
	Slots  [][]api.Slot
	Turns  []bool
	Next   []api.State
	Errors []api.Errno
	Fold   api.State
	N      int
}

// ask asks all calls.
func ask(a asked) told {
	var out told
	out.First, out.Err = state.First(a.C)
	out.Check = state.Check(a.C, a.S)
	if r, e := state.Table(a.C, a.S); e == api.OK {
		for cell := range r.Cells() {
			out.Slots = append(out.Slots, r.Slots(cell))
		}
	}
	for robot := -1; robot < 4; robot++ {
		out.Turns = append(out.Turns, state.Turn(a.C, a.S, robot))
	}
	for _, e := range a.L {
		n, f := state.Apply(a.C, a.S, e)
		out.Next, out.Errors = append(out.Next, n), append(out.Errors, f)
	}
	out.Fold, out.N = state.Fold(a.C, a.S, a.L)
	return out
}

// drawAsked is a state of a script, with events; at times a config that may not be, or a state that may not.
func drawAsked(luck *chance) asked {
	c := drawConf(luck)
	s := plainFirst(c)
	for range luck.below(150) {
		if next, f := plainApply(c, s, drawEvent(luck, c, s)); f == api.OK {
			s = next
		}
	}
	a := asked{C: c, S: s}
	// Some that can be applied one behind the other, so that Fold has something to do, then any.
	x := s
	for range luck.below(12) {
		e := drawEvent(luck, c, x)
		if next, f := plainApply(c, x, e); f == api.OK {
			x, a.L = next, append(a.L, e)
		}
	}
	for range luck.below(12) {
		a.L = append(a.L, drawEvent(luck, c, s))
	}
	switch luck.below(12) {
	case 0:
		a.C.Turn = 0
	case 1:
		a.S = nilled(a.S)
		spoil(luck, &a.S)
	}
	return a
}

// R3, R4: what is handed in stays, spare room too, whatever the answers are; asked once more, they are the same.
func TestHandedInStays(t *testing.T) {
	var luck chance = 19
	for range 400 {
		given := deep(drawAsked(&luck))
		kept := whole(given)
		first := ask(given)
		if !reflect.DeepEqual(whole(given), kept) {
			t.Fatalf("%+v, want %+v", whole(given), kept)
		}
		if again := ask(given); !reflect.DeepEqual(again, first) {
			t.Fatalf("%+v, want %+v", again, first)
		}
	}
}

// R3: answers are memory of their own: to write over one turns neither what was handed in nor another answer nor another list of its own; nor does what becomes of the arguments turn them.
func TestAnswersAreNewMemory(t *testing.T) {
	var luck chance = 23
	for range 300 {
		given := deep(drawAsked(&luck))
		kept := whole(given)
		want := deep(ask(given))
		spoilt := ask(given)
		spoilAll(reflect.ValueOf(&spoilt).Elem())
		if !reflect.DeepEqual(whole(given), kept) {
			t.Fatalf("%+v, want %+v", whole(given), kept)
		}
		got := ask(given)
		spoilAll(reflect.ValueOf(&given).Elem())
		if !reflect.DeepEqual(tight(got), tight(want)) {
			t.Fatalf("%+v, want %+v", got, want)
		}
	}
}

// lists is where the memory of each list of a thing lies, its spare room too.
func lists(v reflect.Value) [][2]uintptr {
	var out [][2]uintptr
	switch v.Kind() {
	case reflect.Struct:
		for i := range v.NumField() {
			out = append(out, lists(v.Field(i))...)
		}
	case reflect.Slice:
		if v.Cap() > 0 {
			out = append(out, [2]uintptr{v.Pointer(), v.Pointer() + uintptr(v.Cap())*v.Type().Elem().Size()})
		}
		for i := range v.Len() {
			out = append(out, lists(v.Index(i))...)
		}
	}
	return out
}

// R3: no two lists of one answer share memory, and none shares it with an argument; a list that is empty keeps none.
func TestListsAreApart(t *testing.T) {
	var luck chance = 29
	for range 400 {
		given := deep(drawAsked(&luck))
		mine := lists(reflect.ValueOf(given))
		a := ask(given)
		for _, s := range append(a.Next, a.First, a.Fold) {
			l := lists(reflect.ValueOf(s))
			slices.SortFunc(l, func(a, b [2]uintptr) int { return int(int64(a[0]) - int64(b[0])) })
			for i, x := range l {
				if i > 0 && l[i-1][1] > x[0] {
					t.Fatal("two lists of one answer share memory")
				}
				for _, y := range mine {
					if x[0] < y[1] && y[0] < x[1] {
						t.Fatal("an answer shares memory with an argument")
					}
				}
			}
		}
	}
}

// R3: nil and an empty list are one.
func TestNoneIsNil(t *testing.T) {
	var luck chance = 31
	for range 300 {
		a := drawAsked(&luck)
		want := tight(ask(a))
		for _, x := range []asked{tight(a), loose(a), deep(a)} {
			if got := tight(ask(x)); !reflect.DeepEqual(got, want) {
				t.Fatalf("%+v, want %+v", got, want)
			}
		}
	}
}

// R4: what is asked between two calls, of other hives, does not matter.
func TestCallsHaveNothingInCommon(t *testing.T) {
	var luck chance = 37
	var l []asked
	var all []told
	for range 100 {
		a := drawAsked(&luck)
		l, all = append(l, a), append(all, ask(a))
	}
	for i, a := range slices.Backward(l) {
		if got := ask(a); !reflect.DeepEqual(got, all[i]) {
			t.Fatalf("%+v, want %+v", got, all[i])
		}
	}
}

// R1, R5: none panics, and all end, whatever the numbers and lists are: states of other configs, robots Out without moves, orders and jobs of nobody, moves of any kind.
func TestAnyState(t *testing.T) {
	numbers := append(ends(), -1, 0, 0, 0, 1, 1, 1, 2, 2, 3, 4, 5, 7, 9)
	var luck chance = 41
	draw := func() int { return numbers[luck.below(len(numbers))] }
	some := func() []int { return slices.Clone(numbers)[len(numbers)-luck.below(9):] }
	pose := func() api.Pose { return api.Pose{At: at(draw(), draw()), Down: luck.below(2) == 0} }
	moves := func() []api.Move {
		var out []api.Move
		for range luck.below(3) {
			out = append(out, api.Move{Kind: draw(), Dir: draw(), N: draw(), From: pose(), To: pose(), At: draw(), End: draw()})
		}
		return out
	}
	for range 4000 {
		a := asked{C: three(), S: plainFirst(drawConf(&luck))}
		switch luck.below(4) {
		case 0:
			a.C = drawConf(&luck)
		case 1:
			a.C.Queue, a.C.Height = draw(), draw()
		}
		s := &a.S
		s.Seq, s.Epoch, s.Held, s.NextOrder, s.NextJob = draw(), draw(), luck.below(2) == 0, draw(), draw()
		for range luck.below(4) {
			s.Ports = append(s.Ports, api.Port{Bin: luck.below(2) * draw(), Active: luck.below(2) * draw(), Queue: some()})
			s.Orders = append(s.Orders, api.Order{ID: draw(), Bin: draw(), Port: draw(), State: draw()})
			s.Jobs = append(s.Jobs, api.Job{ID: draw(), Kind: draw(), Order: draw(), Bin: draw(), From: at(draw(), draw()), To: at(draw(), draw()), Robot: draw()})
			s.Stacks = append(s.Stacks, api.Stack{At: at(draw(), draw()), Bins: some()})
			s.Robots = append(s.Robots, api.Robot{At: pose(), Load: draw(), Job: draw(), Moves: moves(), Out: luck.below(2) == 0, Num: draw(), Stands: luck.below(2) == 0})
		}
		for kind := -1; kind <= 10; kind++ {
			for range 3 {
				a.L = append(a.L, api.Event{Kind: kind, A: draw(), B: draw(), Pose: pose(), Moves: moves()})
			}
		}
		ask(a)
		a.L = a.L[luck.below(len(a.L)):]
		ask(a)
	}
	// A port that the config has and the state has not.
	for _, kind := range []int{api.Lift, api.Drop} {
		for n, cell := range three().Ports {
			s := hoists(three(), kind, cell, back(9, at(2, 1), cell), 9)
			s.Ports = s.Ports[:n]
			ask(asked{C: three(), S: s, L: []api.Event{evDone(0)}})
			s.Held = true
			ask(asked{C: three(), S: s, L: []api.Event{evHalt(0, 0, flat(cell.X, cell.Y)), evHalt(0, 9, flat(cell.X, cell.Y))}})
		}
	}
	ask(asked{})
	ask(asked{C: three(), L: []api.Event{evStop(), evResume()}})
	ask(asked{S: busy(t), L: []api.Event{evStop()}})
}

// R1: the greatest hive: all robots, with as many moves as may be, all orders, all bins.
func TestGreatest(t *testing.T) {
	c := bare(16, 16, 8, 16)
	c.Unit, c.Accel, c.Speed = 1, 1, 1
	for i := range api.MaxRobots {
		c.Robots = append(c.Robots, flat(0, 2*i))
		c.Ports = append(c.Ports, at(15, 2*i))
	}
	for i := range 64 {
		l := pile(3+i%8, i/8)
		for j := range 8 {
			l.Bins = append(l.Bins, 8*i+j+1)
		}
		c.Stacks = append(c.Stacks, l)
	}
	s, e := state.First(c)
	if e != api.OK {
		t.Fatal(e)
	}
	for i := range api.MaxOrders {
		s.Orders = append(s.Orders, api.Order{ID: i + 1, Bin: 1 + i%512, Port: i % 8, State: api.Delivered})
	}
	s.NextOrder = api.MaxOrders + 1
	for i := range s.Robots {
		there, here := run(c, flat(0, 2*i), api.East, 14, 0), run(c, flat(14, 2*i), api.West, 14, 0)
		for n := range api.MaxMoves {
			m := []api.Move{there, here}[n%2]
			m.At, m.End = n*there.End, (n+1)*there.End
			s.Robots[i].Moves = append(s.Robots[i].Moves, m)
		}
	}
	if !state.Check(c, s) {
		t.Fatal("Check")
	}
	l := []api.Event{}
	for robot := range s.Robots {
		l = append(l, evGo(robot), evDone(robot))
	}
	got, n := state.Fold(c, s, append(l, evStop()))
	if n != 17 || !state.Check(c, got) || got.Robots[7].At != flat(14, 14) {
		t.Fatal(n, got.Robots[7].At)
	}
	moves := s.Robots[3].Moves
	s.Robots[3].Moves = nil
	if got, e := state.Apply(c, s, evPlan(3, 0, moves)); e != api.OK || !state.Check(c, got) {
		t.Fatal(e)
	}
}
