package state_test

import (
	"testing"

	"skep/api"
	"skep/state"
)

// folds fails unless Fold tells just this.
func folds(t *testing.T, c api.Conf, s api.State, l []api.Event, want api.State, n int) {
	t.Helper()
	got, gn := state.Fold(c, s, l)
	if gn != n {
		t.Fatalf("%d of %d events, want %d", gn, len(l), n)
	}
	same(t, got, want)
}

// P16.5: none, some, all; what comes behind one that is refused is not applied, though it could be.
func TestFold(t *testing.T) {
	c := three()
	first := plainFirst(c)
	a, b, stop := evOrder(7, 0), evBegin(1), evStop()
	one := takes(t, c, first, a)
	two := takes(t, c, one, b)
	three := takes(t, c, two, stop)
	folds(t, c, first, nil, first, 0)
	folds(t, c, first, []api.Event{}, first, 0)
	folds(t, c, first, []api.Event{a}, one, 1)
	folds(t, c, first, []api.Event{a, b}, two, 2)
	folds(t, c, first, []api.Event{a, b, stop}, three, 3)
	folds(t, c, two, []api.Event{stop}, three, 1)
	folds(t, c, first, []api.Event{b, a, stop}, first, 0)
	folds(t, c, first, []api.Event{a, a, b}, one, 1)
	folds(t, c, first, []api.Event{a, {}, stop}, one, 1)
	folds(t, c, first, []api.Event{a, b, {Kind: 10}, stop}, two, 2)
	folds(t, c, three, []api.Event{a, stop}, three, 0)
	full := but(first, func(s *api.State) { s.Seq = most - 1 })
	folds(t, c, full, []api.Event{a, b}, takes(t, c, full, a), 1)
}

// P16.5: over scripts: as many as can be applied one behind the other, from wherever it begins.
func TestFoldOfScripts(t *testing.T) {
	var luck chance = 7
	short := 0
	for range 100 {
		c := drawConf(&luck)
		states, events := []api.State{plainFirst(c)}, []api.Event{}
		for range 120 {
			last := states[len(states)-1]
			e := drawEvent(&luck, c, last)
			if next, f := plainApply(c, last, e); f == api.OK {
				states, events = append(states, next), append(events, e)
			}
		}
		n := len(events)
		folds(t, c, states[0], events, states[n], n)
		from := luck.below(n + 1)
		to := from + luck.below(n+1-from)
		folds(t, c, states[from], events[from:to], states[to], to-from)
		// One that is refused, somewhere between.
		at := luck.below(n + 1)
		with := append(append([]api.Event(nil), events[:at]...), api.Event{Kind: api.EvGo, A: 99})
		folds(t, c, states[0], append(with, events[at:]...), states[at], at)
		// From a state that they were not made for.
		want, m := states[from], 0
		for _, e := range events {
			next, f := plainApply(c, want, e)
			if f != api.OK {
				short++
				break
			}
			want = next
			m++
		}
		folds(t, c, states[from], events, want, m)
	}
	if short < 30 {
		t.Errorf("%d folds were broken off", short)
	}
}
