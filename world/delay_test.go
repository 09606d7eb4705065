package world_test

import (
	"math"
	"testing"

	"skep/api"
)

// P19.4: no such robot, or ticks below 1: ErrArg, and nothing is held up.
func TestDelayRefuses(t *testing.T) {
	for _, c := range confs() {
		w, m := made(t, c), modelOf(c)
		for i, p := range c.Robots {
			both(t, w, m, call{kind: hear, tele: goes(i, 0, 1, lifts(p, 2))})
		}
		for _, i := range robots(c) {
			for _, n := range append(ends(), -2, -1, 0, 1) {
				there := i >= 0 && i < len(c.Robots)
				if there && n > 0 {
					continue
				}
				if e := w.Delay(i, n); e != api.ErrArg {
					t.Errorf("robot %d of %d, %d ticks: error %d", i, len(c.Robots), n, e)
				}
			}
		}
		for range 3 {
			both(t, w, m, call{kind: pass})
		}
	}
}

// P19.4: a move that is delayed ends so many ticks later; what it does it does then, and nobody else is held up.
func TestDelay(t *testing.T) {
	for _, n := range []int{1, 2, 9} {
		w := over(t)
		m := lifts(to(1, 0), 6)
		begins(t, w, 0, 3, m)
		begins(t, w, 2, 1, runs(down(5, 1), api.North, 1, 4))
		rests(t, w, 3)
		if e := w.Delay(0, n); e != api.OK {
			t.Fatal(e)
		}
		ticks(t, w, []api.Tele{acks(2, 0, 1)}, end(2, runs(down(5, 1), api.North, 1, 4)))
		for range n + 1 {
			rests(t, w, 1)
			carries(t, w, 0, 0, at(1, 0), 7, 8)
		}
		ticks(t, w, []api.Tele{acks(0, 0, 3)}, of(api.SeLift, 0, 8, to(1, 0)), end(0, m))
		if w.Now() != 14+n {
			t.Errorf("at %d", w.Now())
		}
	}
}

// P19.4: delays come together; at most 1000000 ticks are left to it, as with a robot.
func TestDelays(t *testing.T) {
	w := made(t, yard())
	m := runs(to(0, 1), api.South, 1, 4)
	begins(t, w, 0, 1, m)
	for _, n := range []int{2, 3} {
		if e := w.Delay(0, n); e != api.OK {
			t.Fatal(e)
		}
	}
	rests(t, w, 8)
	ticks(t, w, []api.Tele{acks(0, 0, 1)}, end(0, m))
	back := runs(to(0, 2), api.North, 1, 2)
	begins(t, w, 0, 2, back)
	for _, n := range []int{math.MaxInt, 1, math.MaxInt} {
		if e := w.Delay(0, n); e != api.OK {
			t.Fatal(e)
		}
	}
	for range 1000001 {
		if l := w.Tick(); len(l) != 0 {
			t.Fatalf("at %d: %+v", w.Now(), l)
		}
	}
	ticks(t, w, []api.Tele{acks(0, 0, 2)}, end(0, back))
}

// P19.4: of each robot that there is; one that stands is not held up.
func TestDelayOfEach(t *testing.T) {
	for i, p := range yard().Robots {
		w, m := made(t, yard()), modelOf(yard())
		both(t, w, m, call{kind: late, i: i, n: 5})
		for j, q := range yard().Robots {
			both(t, w, m, call{kind: hear, tele: goes(j, 0, 1, lifts(q, 2))})
		}
		both(t, w, m, call{kind: late, i: i, n: 3})
		for range 2 {
			both(t, w, m, call{kind: pass})
		}
		for j := range yard().Robots {
			if _, ok := w.Under(j); ok != (i == j) {
				t.Errorf("of %d: under way for %d: %v", i, j, ok)
			}
		}
		rests(t, w, 2)
		ticks(t, w, []api.Tele{acks(i, 0, 1)}, sight(api.SeBad, i, p), end(i, lifts(p, 2)))
	}
}
