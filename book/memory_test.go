package book_test

import (
	"reflect"
	"slices"
	"testing"

	"skep/api"
	"skep/book"
)

// hive is a config and a state.
type hive struct {
	c api.Conf
	s api.State
}

// spare is the same list in new memory, with spare room.
func spare[T any](l []T) []T {
	return append(make([]T, 0, len(l)+8), l...)
}

// open is a list with its spare room laid open.
func open[T any](l []T) []T {
	return l[:cap(l)]
}

// lists is a hive with each list turned by these, in memory of its own where lists stand in lists.
func lists(h hive, cells func([]api.Cell) []api.Cell, poses func([]api.Pose) []api.Pose, ints func([]int) []int, stacks func([]api.Stack) []api.Stack,
	robots func([]api.Robot) []api.Robot, ports func([]api.Port) []api.Port, orders func([]api.Order) []api.Order, jobs func([]api.Job) []api.Job) hive {
	h.c.Blocked, h.c.Ports, h.c.Robots = cells(h.c.Blocked), cells(h.c.Ports), poses(h.c.Robots)
	h.c.Stacks, h.s.Stacks = slices.Clone(stacks(h.c.Stacks)), slices.Clone(stacks(h.s.Stacks))
	for _, l := range [][]api.Stack{h.c.Stacks, h.s.Stacks} {
		for i := range l {
			l[i].Bins = ints(l[i].Bins)
		}
	}
	h.s.Robots, h.s.Orders, h.s.Jobs = robots(h.s.Robots), orders(h.s.Orders), jobs(h.s.Jobs)
	h.s.Ports = slices.Clone(ports(h.s.Ports))
	for i := range h.s.Ports {
		h.s.Ports[i].Queue = ints(h.s.Ports[i].Queue)
	}
	return h
}

// deep is a hive with the same in lists of its own, each with spare room.
func deep(h hive) hive {
	out := lists(h, spare[api.Cell], spare[api.Pose], spare[int], spare[api.Stack], spare[api.Robot], spare[api.Port], spare[api.Order], spare[api.Job])
	out.c.Stacks, out.s.Stacks, out.s.Ports = spare(out.c.Stacks), spare(out.s.Stacks), spare(out.s.Ports)
	return out
}

// whole is a hive with its lists' spare room laid open.
func whole(h hive) hive {
	return lists(h, open[api.Cell], open[api.Pose], open[int], open[api.Stack], open[api.Robot], open[api.Port], open[api.Order], open[api.Job])
}

// answers is all that the layer tells of a hive.
type answers struct {
	admits  [][2]int
	touched []api.Cell
	next    int
	jobs    []api.Job
	ok      bool
	drains  []api.Job
	errors  []api.Errno
	ready   []api.Job
}

// ask asks all calls, with ports there and not, of these bins.
func ask(h hive, bins []int, ports []int) answers {
	var out answers
	for _, port := range ports {
		for _, bin := range bins {
			p, e := book.Admit(h.c, h.s, bin, port)
			out.admits = append(out.admits, [2]int{p, int(e)})
		}
		j, e := book.Drain(h.c, h.s, port)
		out.drains, out.errors = append(out.drains, j), append(out.errors, e)
	}
	out.touched = book.Touched(h.s)
	out.next, out.jobs, out.ok = book.Next(h.c, h.s)
	out.ready = ready(h.s, 1<<30)
	return out
}

// fewBins and fewPorts are what is asked for in hives as luck has them.
func fewBins() []int { return []int{-1, 0, 1, 2, 3, 5, 9, 17} }

func fewPorts() []int { return []int{-2, -1, 0, 1, 2, 3, 4} }

// drawHive is one that may be; at times its config may not.
func drawHive(luck *chance) hive {
	c := drawConf(luck)
	h := hive{c, drawState(luck, c)}
	if luck.below(20) == 0 {
		h.c.Turn = 0
	}
	return h
}

// R3, R4: what is handed in stays, spare room too, whatever the answers are; asked once more, they are the same.
func TestHandedInStays(t *testing.T) {
	var luck chance = 19
	for range 3000 {
		given := deep(drawHive(&luck))
		kept := whole(deep(given))
		first := ask(given, fewBins(), fewPorts())
		if !reflect.DeepEqual(whole(given), kept) {
			t.Fatalf("%+v, want %+v", whole(given), kept)
		}
		if again := ask(given, fewBins(), fewPorts()); !reflect.DeepEqual(again, first) {
			t.Fatalf("%+v, want %+v", again, first)
		}
	}
}

// R3: answers are memory of their own: to write over them, spare room too, turns neither the hive nor another answer; nor does what becomes of the hive turn them.
func TestAnswersAreNewMemory(t *testing.T) {
	var luck chance = 23
	for range 2000 {
		h := deep(drawHive(&luck))
		kept, want := whole(deep(h)), ask(h, fewBins(), fewPorts())
		spoilt := ask(h, fewBins(), fewPorts())
		for _, l := range [][]api.Job{open(spoilt.jobs), open(spoilt.ready)} {
			for i := range l {
				l[i] = api.Job{Kind: 99, Robot: 99}
			}
		}
		for i := range open(spoilt.touched) {
			open(spoilt.touched)[i] = at(-9, -9)
		}
		if !reflect.DeepEqual(whole(h), kept) {
			t.Fatalf("%+v, want %+v", whole(h), kept)
		}
		told := ask(h, fewBins(), fewPorts())
		for i := range open(h.s.Jobs) {
			open(h.s.Jobs)[i] = api.Job{Kind: 98}
		}
		for _, l := range whole(h).s.Stacks {
			for i := range l.Bins {
				l.Bins[i] = 97
			}
		}
		if !reflect.DeepEqual(told, want) {
			t.Fatalf("%+v, want %+v", told, want)
		}
	}
}

// R3: nil and an empty list are one.
func TestNoneIsNil(t *testing.T) {
	var luck chance = 29
	for range 2000 {
		h := drawHive(&luck)
		want := ask(h, fewBins(), fewPorts())
		if got := ask(lists(h, full, full, full, full, full, full, full, full), fewBins(), fewPorts()); !reflect.DeepEqual(got, want) {
			t.Fatalf("%+v, want %+v", got, want)
		}
		if got := ask(lists(h, void, void, void, void, void, void, void, void), fewBins(), fewPorts()); !reflect.DeepEqual(got, want) {
			t.Fatalf("%+v, want %+v", got, want)
		}
	}
}

// full is a list, empty if it is nil.
func full[T any](l []T) []T {
	return append([]T{}, l...)
}

// void is a list, nil if it is empty.
func void[T any](l []T) []T {
	return append([]T(nil), l...)
}

// R4: what is asked between two calls, of other hives, does not matter.
func TestCallsHaveNothingInCommon(t *testing.T) {
	var luck chance = 31
	var hives []hive
	var all []answers
	for range 500 {
		h := drawHive(&luck)
		hives, all = append(hives, h), append(all, ask(h, fewBins(), fewPorts()))
	}
	for i, h := range slices.Backward(hives) {
		if got := ask(h, fewBins(), fewPorts()); !reflect.DeepEqual(got, all[i]) {
			t.Fatalf("%+v, want %+v", got, all[i])
		}
	}
}

// R2: with an error, or a false, every other result is zero, of whatever hive, those that may not be too.
func TestRefusedIsZero(t *testing.T) {
	var luck chance = 37
	for range 5000 {
		h := drawHive(&luck)
		if luck.below(2) == 0 {
			h.c = drawConf(&luck)
		}
		a := ask(h, fewBins(), fewPorts())
		for _, x := range a.admits {
			if x[1] != 0 && x[0] != 0 {
				t.Fatal(x)
			}
		}
		for i, j := range a.drains {
			if a.errors[i] != api.OK && j != (api.Job{}) {
				t.Fatal(j)
			}
		}
		if !a.ok && (a.next != 0 || len(a.jobs) > 0) {
			t.Fatal(a.next, a.jobs)
		}
	}
}

// R1, R5: none panics, whatever the numbers and however long the lists are: hives that may not be, states of other configs, ports and orders that are not there.
func TestAnyHive(t *testing.T) {
	numbers := append(ends(), -1, 0, 0, 1, 1, 2, 3, 4, 5)
	var luck chance = 41
	draw := func() int { return numbers[luck.below(len(numbers))] }
	some := func() []int { return spare(numbers)[len(numbers)-luck.below(6):] }
	for range 20000 {
		h := hive{c: three()}
		switch luck.below(4) {
		case 0:
			h.c = drawConf(&luck)
		case 1:
			h.c.Queue, h.c.Height = draw(), draw()
		}
		h.s = drawState(&luck, drawConf(&luck))
		for range luck.below(5) {
			h.s.Ports = append(h.s.Ports, api.Port{Bin: luck.below(2) * draw(), Active: luck.below(2) * draw(), Queue: some()})
			h.s.Orders = append(h.s.Orders, api.Order{ID: draw(), Bin: draw(), Port: draw(), State: draw()})
			h.s.Jobs = append(h.s.Jobs, api.Job{ID: draw(), Kind: draw(), Order: draw(), Bin: draw(), From: at(draw(), draw()), To: at(draw(), draw()), Robot: draw()})
			h.s.Stacks = append(h.s.Stacks, api.Stack{At: at(draw(), draw()), Bins: some()})
			h.s.Robots = append(h.s.Robots, api.Robot{Load: draw(), Job: draw()})
		}
		h.s.NextOrder = draw()
		ask(h, []int{draw(), draw(), 0, 1}, []int{draw(), -1, 0, 1, 5})
	}
	ask(hive{}, numbers, numbers)
	ask(hive{c: three()}, numbers, numbers)
	ask(hive{s: served()}, numbers, numbers)
}
