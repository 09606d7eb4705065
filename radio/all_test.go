package radio_test

import (
	"slices"
	"testing"

	"skep/api"
)

// first is what an iterator tells till it is broken off behind n.
func first(t *testing.T, all func(func(int, api.Tele) bool), n int) []api.Tele {
	t.Helper()
	var out []api.Tele
	for i, x := range all {
		if i != len(out) {
			t.Fatalf("place %d, want %d", i, len(out))
		}
		if out = append(out, x); len(out) == n {
			break
		}
	}
	return out
}

// P20.1, R6: All with their places, broken off behind each, and gone through again.
func TestAllBrokenOff(t *testing.T) {
	for _, n := range []int{0, 1, 2, 7, 1024} {
		r := filled(t, n)
		all := r.All()
		for upto := 1; upto <= n+1; upto += 1 + n/50 {
			if got := first(t, all, upto); !slices.Equal(got, teles(0, min(upto, n))) {
				t.Fatalf("%d of %d: %+v", upto, n, got)
			}
			if got := first(t, all, n+1); !slices.Equal(got, teles(0, n)) {
				t.Fatalf("all of %d: %+v", n, got)
			}
		}
		under(t, r, teles(0, n)...)
	}
}

// P20.1: nothing more is told to one that has broken off.
func TestAllStops(t *testing.T) {
	told := 0
	filled(t, 5).All()(func(i int, x api.Tele) bool {
		told++
		return i < 2
	})
	if told != 3 {
		t.Error(told)
	}
}

// R6: All can be gone through within itself.
func TestAllWithinAll(t *testing.T) {
	all := filled(t, 4).All()
	told := 0
	for i, x := range all {
		if got := first(t, all, 9); i != told || x != tele(i) || !slices.Equal(got, teles(0, 4)) {
			t.Fatal(i, x, got)
		}
		told++
	}
	if told != 4 {
		t.Error(told)
	}
}

// R6: what was asked for ahead of a change ends, and panics at nothing, however the radio is turned while it is gone through; behind that all is as it was turned.
func TestAllWhileTurned(t *testing.T) {
	r := filled(t, 6)
	for i := range r.All() {
		if i == 0 {
			r.Lose(5)
		}
		r.Hear(0, false)
	}
	before := r.Len()
	for range r.All() {
		r.Send(tele(50), tele(51))
	}
	if r.Len() <= before && before > 0 {
		t.Error(before, r.Len())
	}
	r = filled(t, 3)
	for range r.All() {
		for range 3 {
			r.Lose(0)
		}
	}
	under(t, r)
}
