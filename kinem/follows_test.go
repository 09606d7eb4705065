package kinem_test

import (
	"slices"
	"testing"
)

// P9.4: the speed rises by no more than Accel a tick and is never above Speed; it goes on each tick, and can always stand on its way.
func TestSpeedsFollow(t *testing.T) {
	for _, p := range slices.Concat(some(), small(), chosen(200)) {
		k := made(t, p)
		for n := 1; n <= 16; n++ {
			s := 0
			for tick := 1; tick <= k.Time(n); tick++ {
				next := k.Speed(n, tick)
				if next < 1 || next > p.speed || next-s > p.accel {
					t.Fatalf("%v, %d cells: from %d to %d at %d", p, n, s, next, tick)
				}
				if k.At(n, tick)+k.Brake(next) > n*p.unit {
					t.Fatalf("%v, %d cells: it can't stand any more at %d", p, n, tick)
				}
				s = next
			}
		}
	}
}

// P9.4: how many ticks a run takes, at least and at most.
func TestTimesFollow(t *testing.T) {
	for _, p := range slices.Concat(some(), small(), chosen(200)) {
		k := made(t, p)
		for n := 1; n <= 16; n++ {
			all := k.Time(n)
			if all*p.speed < n*p.unit || all > n*p.unit {
				t.Fatalf("%v: %d ticks for %d cells", p, all, n)
			}
			if k.At(n, all) != n*p.unit || k.At(n, all-1) >= n*p.unit {
				t.Fatalf("%v: at %d behind %d ticks of %d cells", p, k.At(n, all), all, n)
			}
		}
	}
}

// P9.4: a stopped run ends on its way, less than a cell behind the place where it could stand.
func TestStopsFollow(t *testing.T) {
	for _, p := range slices.Concat(some(), small(), chosen(60)) {
		k := made(t, p)
		for _, n := range []int{1, 2, 6, 16} {
			all := k.Time(n)
			for tick := 1; tick < all; tick += 1 + all/200 {
				cells, further := k.Stop(n, tick)
				stand := k.At(n, tick) + k.Brake(k.Speed(n, tick))
				if cells > n || cells*p.unit < stand || cells*p.unit-stand >= p.unit {
					t.Fatalf("%v: Stop(%d, %d): %d cells, it could stand at %d", p, n, tick, cells, stand)
				}
				if left := cells*p.unit - k.At(n, tick); further > left || further*k.Speed(n, tick) < left {
					t.Fatalf("%v: Stop(%d, %d): %d ticks for %d units", p, n, tick, further, left)
				}
			}
		}
	}
}

// P9.3 with P9.4: at each tick of a run some cells are taken, side by side; at its end those at which it stands then.
func TestWindowsFollow(t *testing.T) {
	for _, p := range slices.Concat(some(), small(), chosen(100)) {
		k := made(t, p)
		for n := 1; n <= 16; n++ {
			for length := 1; length <= 2; length++ {
				w := k.Windows(n, length)
				if len(w) != n+length || w[0][0] != 0 || w[n+length-1][1] != k.Time(n) {
					t.Fatalf("%v: Windows(%d, %d): %v", p, n, length, w)
				}
				for j, x := range w {
					if x[0] >= x[1] || j > 0 && (x[0] < w[j-1][0] || x[1] < w[j-1][1] || x[0] > w[j-1][1]) {
						t.Fatalf("%v: Windows(%d, %d): %v", p, n, length, w)
					}
				}
			}
		}
	}
}
