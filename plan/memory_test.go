package plan_test

import (
	"slices"
	"testing"

	"skep/api"
	"skep/plan"
	"skep/resv"
)

// slots is all that a table has.
func slots(r *resv.Table) [][]api.Slot {
	var out [][]api.Slot
	for number := range r.Cells() {
		out = append(out, r.Slots(number))
	}
	return out
}

// R3: what is handed in stays, spare room too: the config's lists, the stops, the moves, the table, whatever the answer is.
func TestHandedInStays(t *testing.T) {
	var luck chance = 19
	count := map[api.Errno]int{}
	for range 600 {
		q := drawQuestion(&luck, 4)
		q.c.Budget = 1 + luck.below(40)
		q.stops = append(make([]plan.Stop, 0, 9), q.stops...)
		if luck.below(9) == 0 {
			q.home.At.X = -1
		}
		q.c.Blocked = append(make([]api.Cell, 0, 9), q.c.Blocked...)
		q.c.Robots = make([]api.Pose, 0, 3)
		blocked, stops, table := slices.Clone(q.c.Blocked[:9]), slices.Clone(q.stops[:9]), slots(q.r)
		moves, e := q.round()
		count[e]++
		full := append(make([]api.Move, 0, len(moves)+5), moves...)
		kept := slices.Clone(full[:cap(full)])
		g := gridOf(t, q.c)
		plan.Holds(g, q.from, full)
		plan.Right(q.c, kinOf(t, q.c), q.from, full)
		if !slices.Equal(full[:cap(full)], kept) {
			t.Fatal("the moves were turned")
		}
		if !slices.Equal(q.c.Blocked[:9], blocked) || q.c.Robots[:3][0] != flat(0, 0) || !slices.Equal(q.stops[:9], stops) {
			t.Fatal("the lists were turned")
		}
		if !slices.EqualFunc(slots(q.r), table, slices.Equal) {
			t.Fatal("the table was turned")
		}
		// R4: asked once more, it is the same.
		answers(t, q, moves, e)
	}
	if len(count) != 5 {
		t.Errorf("%v", count)
	}
}

// R3: moves and wants are memory of their own: to write over them, spare room too, turns no other answer.
func TestAnswersAreNewMemory(t *testing.T) {
	q := question{c: plainConf(4, 4), r: tableOf(t, 16), from: flat(0, 0), home: down(3, 2), stops: []plan.Stop{lifts(1, 2), drops(1, 2)}}
	for _, stops := range [][]plan.Stop{q.stops, q.stops[:1], nil} {
		q.stops = stops
		a, e := q.round()
		if e != api.OK || len(a) == 0 {
			t.Fatal(a, e)
		}
		kept := slices.Clone(a)
		b, _ := q.round()
		for i := range b[:cap(b)] {
			b[:cap(b)][i] = api.Move{Kind: 99}
		}
		answers(t, q, kept, api.OK)
		if !slices.Equal(a, kept) {
			t.Error(a)
		}
		g := gridOf(t, q.c)
		for _, moves := range [][]api.Move{a, nil} {
			x := plan.Holds(g, q.from, moves)
			same := slices.Clone(x)
			y := plan.Holds(g, q.from, moves)
			for i := range y[:cap(y)] {
				y[:cap(y)][i] = resv.Want{Cell: 99}
			}
			if !slices.Equal(x, same) {
				t.Error(x)
			}
			holds(t, g, q.from, moves, same...)
		}
	}
}

// R4: what is asked between two calls, of other hives, does not matter.
func TestCallsHaveNothingInCommon(t *testing.T) {
	var luck chance = 23
	type answer struct {
		q     question
		moves []api.Move
		e     api.Errno
	}
	var l []answer
	for range 200 {
		q := drawQuestion(&luck, 4)
		moves, e := q.round()
		l = append(l, answer{q, moves, e})
	}
	for _, a := range slices.Backward(l) {
		answers(t, a.q, a.moves, a.e)
	}
}

// R1: any numbers are taken, or refused, and none panics.
func TestAnyNumbers(t *testing.T) {
	numbers := append(ends(), -1, 0, 1, 2, 3, 4, end-1)
	var luck chance = 29
	draw := func() int { return numbers[luck.below(len(numbers))] }
	pose := func() api.Pose { return api.Pose{At: cell(draw(), draw()), Down: luck.below(2) == 0} }
	c, r := plainConf(4, 4), tableOf(t, 16, hold{1, 5, 0, 9}, hold{2, 6, end - 9, end})
	g, k := gridOf(t, c), kinOf(t, c)
	for range 20000 {
		q := question{c: c, r: r, robot: draw(), from: pose(), at: draw(), home: pose()}
		for range luck.below(3) {
			q.stops = append(q.stops, plan.Stop{At: pose().At, Kind: draw()})
		}
		if luck.below(3) == 0 {
			q.robot, q.from, q.at = 0, flat(0, 0), 0
		}
		want, e, _ := plainRound(q)
		answers(t, q, want, e)
		var moves []api.Move
		for range luck.below(4) {
			moves = append(moves, api.Move{Kind: draw(), Dir: draw(), N: draw(), From: pose(), To: pose(), At: draw(), End: draw()})
		}
		plan.Holds(g, pose(), moves)
		if len(moves) > 0 && plan.Right(c, k, moves[0].From, moves) != plainRight(g, c, k, moves[0].From, moves) {
			t.Fatal(moves)
		}
	}
}

// R1: the greatest hive, others' slots everywhere, and as many stops as a round can have.
func TestGreatest(t *testing.T) {
	c := plainConf(16, 16)
	c.Unit, c.Accel, c.Speed, c.Turn, c.Hoist, c.Budget = 1000, 100, 1000, 20, 1000, api.MaxBudget
	r := tableOf(t, 256)
	var luck chance = 31
	for number := range 256 {
		for i := range 4 {
			at := 400*i + luck.below(390)
			if e := r.Claim(1+luck.below(7), []resv.Want{{Cell: number, From: at, To: at + 1 + luck.below(9)}}); e != api.OK {
				t.Fatal(e)
			}
		}
	}
	q := question{c: c, r: r, from: flat(0, 0), home: down(15, 14)}
	for i := range 100 {
		q.stops = append(q.stops, plan.Stop{At: cell(luck.below(15), luck.below(15)), Kind: api.Lift + i%2})
	}
	moves, e := q.round()
	if e != api.OK || len(moves) < 200 {
		t.Fatal(len(moves), e)
	}
	right(t, c, q.from, moves, true)
	if e := r.Claim(0, plan.Holds(gridOf(t, c), q.from, moves)); e != api.OK {
		t.Fatal(e)
	}
}
