package dig_test

import (
	"reflect"
	"slices"
	"testing"

	"skep/api"
	"skep/dig"
)

// spare is the same list in new memory, with spare room.
func spare[T any](l []T) []T {
	return append(make([]T, 0, len(l)+8), l...)
}

// spareStacks is the same stacks, each list of them with spare room.
func spareStacks(l []api.Stack) []api.Stack {
	out := spare(l)
	for i, s := range l {
		out[i].Bins = spare(s.Bins)
	}
	return out
}

// deep is a question with the same in lists of its own, each with spare room.
func deep(q question) question {
	q.c.Blocked, q.c.Ports, q.c.Robots = spare(q.c.Blocked), spare(q.c.Ports), spare(q.c.Robots)
	q.c.Stacks, q.stacks, q.touched = spareStacks(q.c.Stacks), spareStacks(q.stacks), spare(q.touched)
	return q
}

// wholeStacks is stacks with their lists' spare room laid open, in memory of its own.
func wholeStacks(l []api.Stack) []api.Stack {
	out := slices.Clone(l[:cap(l)])
	for i, s := range out {
		out[i].Bins = s.Bins[:cap(s.Bins)]
	}
	return out
}

// whole is a question with its lists' spare room laid open.
func whole(q question) question {
	q.c.Blocked = q.c.Blocked[:cap(q.c.Blocked)]
	q.c.Ports = q.c.Ports[:cap(q.c.Ports)]
	q.c.Robots = q.c.Robots[:cap(q.c.Robots)]
	q.c.Stacks, q.stacks = wholeStacks(q.c.Stacks), wholeStacks(q.stacks)
	q.touched = q.touched[:cap(q.touched)]
	return q
}

// R3: what is handed in stays, spare room too, whatever the answer is.
func TestHandedInStays(t *testing.T) {
	var luck chance = 17
	count := map[api.Errno]int{}
	for range 3000 {
		q := drawWild(&luck)
		if luck.below(2) == 0 {
			q = drawTame(&luck, 5)
			q.c.Stacks = q.stacks
		}
		if luck.below(30) == 0 {
			q.c.Unit = 0
		}
		given, kept := deep(q), whole(deep(q))
		l, e := given.jobs()
		count[e]++
		dig.Place(given.c, given.stacks, given.touched, near(&luck, q.c))
		if !reflect.DeepEqual(whole(given), kept) {
			t.Fatalf("%+v, want %+v", whole(given), kept)
		}
		// R4: asked once more, it is the same.
		if again, ae := given.jobs(); ae != e || !slices.Equal(again, l) {
			t.Fatalf("%v, error %d; %v, error %d", again, ae, l, e)
		}
	}
	if len(count) != 6 {
		t.Errorf("%v", count)
	}
}

// R3: what is handed in is not kept, and jobs are memory of their own: to write over either, spare room too, turns no answer.
func TestAnswersAreNewMemory(t *testing.T) {
	for _, c := range []api.Conf{mixed(), back(mixed())} {
		for _, bin := range []int{7, 8, 9} {
			q := deep(one(c, bin))
			l, e := q.jobs()
			kept := slices.Clone(l)
			if e != api.OK {
				t.Fatal(e)
			}
			other, _ := q.jobs()
			for i := range other[:cap(other)] {
				other[:cap(other)][i] = api.Job{Kind: 99}
			}
			gives(t, q, kept...)
			open := whole(q)
			for _, s := range open.stacks {
				for i := range s.Bins {
					s.Bins[i] = 77
				}
			}
			for i := range open.c.Ports {
				open.c.Ports[i] = at(9, 9)
			}
			if !slices.Equal(l, kept) {
				t.Error(l)
			}
		}
	}
}

// R3: nil and an empty list are one.
func TestNoneIsNil(t *testing.T) {
	q := one(mixed(), 7)
	want, _ := q.jobs()
	q.touched, q.c.Stacks = []api.Cell{}, []api.Stack{}
	gives(t, q, want...)
	q.stacks = append([]api.Stack{{At: at(2, 1), Bins: []int{}}, {At: at(0, 1)}}, q.stacks...)
	gives(t, q, want...)
	for _, l := range [][]api.Stack{nil, {}} {
		q.stacks = l
		refuses(t, q, api.ErrBin)
	}
}

// R4: what is asked between two calls, of other hives, does not matter.
func TestCallsHaveNothingInCommon(t *testing.T) {
	var luck chance = 19
	type answer struct {
		q question
		l []api.Job
		e api.Errno
	}
	var all []answer
	for range 500 {
		q := drawWild(&luck)
		l, e := q.jobs()
		all = append(all, answer{q, l, e})
	}
	for _, a := range slices.Backward(all) {
		if l, e := a.q.jobs(); e != a.e || !slices.Equal(l, a.l) {
			t.Fatalf("%v, error %d; want %v, error %d", l, e, a.l, a.e)
		}
	}
}

// R1, R5: any numbers are taken, or refused, and none panics.
func TestAnyNumbers(t *testing.T) {
	numbers := append(ends(), -1, 0, 1, 2, 3, 4, 5)
	var luck chance = 23
	draw := func() int { return numbers[luck.below(len(numbers))] }
	small := func() int { return luck.below(6) - 1 }
	count := map[api.Errno]int{}
	for range 20000 {
		pick := draw
		if luck.below(3) > 0 {
			pick = small
		}
		q := question{c: mixed(), bin: draw(), port: at(pick(), pick())}
		if luck.below(3) > 0 {
			q.port = at(0, 0)
		}
		for range luck.below(9) {
			q.stacks = append(q.stacks, pile(pick(), pick(), draw(), draw(), q.bin, draw()))
		}
		for range luck.below(4) {
			q.touched = append(q.touched, at(pick(), pick()))
		}
		if luck.below(20) == 0 {
			q.c.W, q.c.Height = draw(), draw()
		}
		want, e := plainJobs(q)
		count[e]++
		if e == api.OK {
			gives(t, q, want...)
		} else {
			refuses(t, q, e)
		}
		dig.Place(q.c, q.stacks, q.touched, at(draw(), draw()))
	}
	if count[api.OK] < 1000 || count[api.ErrConf] < 100 {
		t.Errorf("%v", count)
	}
}

// R1: the greatest hive, as many bins above as there are places, and one more; lists of many stacks and touched cells.
func TestGreatest(t *testing.T) {
	c := back(bare(16, 16, 8))
	c.Ports = []api.Cell{at(15, 0)}
	high := pile(7, 7, 1)
	// All but the port, the last cell and the one of the stack itself are places.
	rooms := 8 * (256 - 3)
	for i := range rooms {
		high.Bins = append(high.Bins, 2+i)
	}
	q := question{c: c, stacks: []api.Stack{high}, bin: 1, port: at(15, 0)}
	want, e := plainJobs(q)
	if e != api.OK || len(want) != 2*rooms+1 {
		t.Fatal(len(want), e)
	}
	gives(t, q, want...)
	q.stacks[0].Bins = append(slices.Clone(high.Bins), 2+rooms)
	refuses(t, q, api.ErrRoom)
	q.stacks[0].Bins = make([]int, 1000000)
	q.bin = 0
	refuses(t, q, api.ErrRoom)
	many := make([]api.Stack, 100000)
	for i := range many {
		many[i] = pile(i%16, i/16, i+5, i+6)
	}
	q = question{c: c, stacks: many, bin: 5, port: at(15, 0), touched: make([]api.Cell, 100000)}
	refuses(t, q, api.ErrState)
	for i := range q.touched {
		q.touched[i] = at(1+i%2, 99)
	}
	gives(t, q, away(6, at(0, 0), at(1, 0)), fetch(5, at(0, 0), at(15, 0)), again(6, at(1, 0), at(0, 0)))
}
