package radio_test

import (
	"math"
	"slices"
	"testing"

	"skep/api"
	"skep/radio"
)

// P20.1: with none under way Hear is the zero telegram and false, and Lose false, at any place; never there, and gone.
func TestNoneUnderWay(t *testing.T) {
	gone := filled(t, 3)
	gone.Hear(1, false)
	gone.Lose(1)
	gone.Hear(1, false)
	for _, r := range []*radio.Radio{radio.New(), gone} {
		for _, i := range append(ends(), -2, -1, 0, 1, 2, 3) {
			for _, keep := range []bool{true, false} {
				if x, ok := r.Hear(i, keep); x != (api.Tele{}) || ok {
					t.Fatalf("Hear of %d: %+v, %v", i, x, ok)
				}
			}
			if r.Lose(i) {
				t.Fatalf("Lose of %d", i)
			}
		}
		under(t, r)
		if r.Send(tele(4)) != 1 {
			t.Fatal("no room")
		}
		under(t, r, tele(4))
	}
}

// spots is places from well below 0 to well above n, and any others, with the place of the telegram that is meant.
func spots(n int) map[int]int {
	out := map[int]int{}
	for at := range n {
		for times := range 5 {
			out[at+times*n] = at
			out[at-times*n] = at
		}
	}
	for _, i := range ends() {
		out[i] = floor(i, n)
	}
	return out
}

// P20.1: with keep the one at the place comes, whichever number says it, and all stay under way.
func TestHearAndKeep(t *testing.T) {
	for _, n := range []int{1, 2, 3, 5, 8, 100} {
		r := filled(t, n)
		for i, at := range spots(n) {
			for range 2 {
				if x, ok := r.Hear(i, true); x != tele(at) || !ok {
					t.Fatalf("Hear of %d among %d: %+v, %v, want %d", i, n, x, ok, at)
				}
			}
		}
		under(t, r, teles(0, n)...)
	}
}

// P20.1: without keep just the one that comes is gone, the others keep their order.
func TestHearAndTake(t *testing.T) {
	for _, n := range []int{1, 2, 3, 5, 8} {
		for i, at := range spots(n) {
			r := filled(t, n)
			if x, ok := r.Hear(i, false); x != tele(at) || !ok {
				t.Fatalf("Hear of %d among %d: %+v, %v, want %d", i, n, x, ok, at)
			}
			under(t, r, slices.Delete(teles(0, n), at, at+1)...)
		}
	}
}

// P20.1: what is lost is gone, just that.
func TestLose(t *testing.T) {
	for _, n := range []int{1, 2, 3, 5, 8} {
		for i, at := range spots(n) {
			r := filled(t, n)
			if !r.Lose(i) {
				t.Fatalf("Lose of %d among %d: nothing", i, n)
			}
			under(t, r, slices.Delete(teles(0, n), at, at+1)...)
		}
	}
}

// P20.1: the least number and the greatest, by hand: -2^63 is 0 modulo 1, 2 and 1024, 1 modulo 3 and 2 modulo 5; 2^63-1 is 1 modulo 2 and 3 and 2 modulo 5.
func TestEndsOfNumbers(t *testing.T) {
	for _, c := range []struct{ n, least, greatest int }{{1, 0, 0}, {2, 0, 1}, {3, 1, 1}, {5, 2, 2}, {1024, 0, 1023}} {
		r := filled(t, c.n)
		if x, ok := r.Hear(math.MinInt, true); x != tele(c.least) || !ok {
			t.Errorf("least of %d: %+v", c.n, x)
		}
		if x, ok := r.Hear(math.MaxInt, true); x != tele(c.greatest) || !ok {
			t.Errorf("greatest of %d: %+v", c.n, x)
		}
	}
}

// P20.1: a place is meant among those that are under way now, not among those that were.
func TestPlacesMove(t *testing.T) {
	r := filled(t, 5)
	for _, c := range []struct{ i, num int }{{5, 0}, {5, 2}, {5, 4}, {5, 3}, {5, 1}} {
		if x, ok := r.Hear(c.i, false); x != tele(c.num) || !ok {
			t.Fatalf("%+v, %v, want %d", x, ok, c.num)
		}
	}
	under(t, r)
}

// P20.1: of those alike just one comes or is lost.
func TestAlike(t *testing.T) {
	r := radio.New()
	r.Send(tele(1), tele(2), tele(1), tele(1))
	r.Hear(2, false)
	under(t, r, tele(1), tele(2), tele(1))
	r.Lose(0)
	under(t, r, tele(2), tele(1))
	r.Send(api.Tele{}, api.Tele{})
	if x, ok := r.Hear(2, false); x != (api.Tele{}) || !ok {
		t.Fatal(x, ok)
	}
	under(t, r, tele(2), tele(1), api.Tele{})
}
