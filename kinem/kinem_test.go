package kinem_test

import (
	"slices"
	"testing"

	"skep/api"
	"skep/kinem"
)

// P9.1: New of each number at its limits and beyond, by itself and with the others.
func TestNew(t *testing.T) {
	values := append(ends(), 0, 1, 2, 500, 999, 1000, 1001, 1002, -1, -1000)
	for i := range 3 {
		for _, v := range values {
			for _, others := range []int{1, 17, 1000} {
				x := [3]int{others, others, others}
				x[i] = v
				k, e := kinem.New(x[0], x[1], x[2])
				switch may := v >= 1 && v <= 1000; {
				case may && (k == nil || e != api.OK):
					t.Errorf("%v: %v, error %d", x, k, e)
				case !may && (k != nil || e != api.ErrArg):
					t.Errorf("%v: %v, error %d, want nil and ErrArg", x, k, e)
				}
			}
		}
	}
	for _, v := range []int{0, 1001, -1} {
		if k, e := kinem.New(v, v, v); k != nil || e != api.ErrArg {
			t.Errorf("%d: %v, error %d", v, k, e)
		}
	}
}

// P9.1: Brake of each speed, of those about them, and near the ends of their range.
func TestBrake(t *testing.T) {
	for _, p := range slices.Concat(some(), small()) {
		k := made(t, p)
		for _, s := range ticks(p.speed + 1001) {
			if got := k.Brake(s); got != p.brake(s) {
				t.Fatalf("%v: Brake(%d): %d, want %d", p, s, got, p.brake(s))
			}
		}
	}
}

// P9.1: Brake, written out.
func TestBrakeWrittenOut(t *testing.T) {
	for _, x := range []struct {
		p       plain
		s, want int
	}{
		{plain{10, 2, 4}, 0, 0}, {plain{10, 2, 4}, 2, 0}, {plain{10, 2, 4}, 3, 1}, {plain{10, 2, 4}, 4, 2}, {plain{10, 2, 4}, 5, 2}, {plain{10, 2, 4}, -4, 0},
		{plain{10, 3, 10}, 10, 7 + 4 + 1}, {plain{10, 3, 10}, 9, 6 + 3}, {plain{10, 3, 10}, 3, 0}, {plain{10, 3, 10}, 4, 1},
		{plain{1, 1, 1000}, 1000, 499500}, {plain{1, 1, 1000}, 1001, 499500}, {plain{1, 1, 1000}, 2, 1}, {plain{1, 1, 1000}, 1, 0},
		{plain{1, 1000, 1000}, 1000, 0}, {plain{1, 999, 1000}, 1000, 1}, {plain{5, 9, 3}, 3, 0},
	} {
		if got := made(t, x.p).Brake(x.s); got != x.want {
			t.Errorf("%v: Brake(%d): %d, want %d", x.p, x.s, got, x.want)
		}
	}
}

// P9.1, P9.3: runs of some numbers, at each tick, about them, and near the ends of their range.
func TestRuns(t *testing.T) {
	for _, p := range some() {
		k := made(t, p)
		runs := []int{1, 2, 3, 7, 15, 16}
		if p.speed > 1 {
			runs = []int{1, 2, 3, 4, 5, 6, 7, 8, 9, 10, 11, 12, 13, 14, 15, 16}
		}
		for _, n := range runs {
			same(t, k, p, n)
		}
	}
}

// P9.1, P9.3: the runs of all small numbers, and of some that look like any.
func TestRunsOfManyNumbers(t *testing.T) {
	for _, p := range slices.Concat(small(), chosen(150)) {
		k := made(t, p)
		for _, n := range []int{1, 2, 3, 5, 11, 16} {
			same(t, k, p, n)
		}
	}
}

// P9.1: profiles, written out.
func TestProfileWrittenOut(t *testing.T) {
	for _, x := range []struct {
		p    plain
		n    int
		want []int
	}{
		{plain{10, 2, 4}, 1, []int{2, 6, 9, 10}},
		{plain{10, 2, 4}, 2, []int{2, 6, 10, 14, 18, 20}},
		{plain{5, 9, 3}, 2, []int{3, 6, 9, 10}},
		{plain{2, 3, 10}, 4, []int{3, 7, 8}},
		{plain{1, 1, 1}, 5, []int{1, 2, 3, 4, 5}},
		{plain{1000, 1000, 1000}, 3, []int{1000, 2000, 3000}},
		{plain{1, 1000, 1000}, 16, []int{16}},
		{plain{1, 1, 1000}, 16, []int{1, 3, 6, 10, 13, 15, 16}},
		{plain{1000, 500, 1000}, 1, []int{500, 1000}},
		{plain{1000, 600, 1000}, 1, []int{600, 1000}},
	} {
		k := made(t, x.p)
		if got := k.Profile(x.n); !slices.Equal(got, x.want) || k.Time(x.n) != len(x.want) {
			t.Errorf("%v: Profile(%d): %v in %d ticks, want %v", x.p, x.n, got, k.Time(x.n), x.want)
		}
	}
	if k := made(t, plain{1000, 1, 1}); k.Time(16) != 16000 || k.At(16, 15999) != 15999 || k.At(16, 16001) != 16000 {
		t.Error(k.Time(16))
	}
}

// P9.1: At and Speed, written out, at the ends of a run and beyond.
func TestAtWrittenOut(t *testing.T) {
	k := made(t, plain{10, 2, 4})
	for _, x := range []struct{ t, at, speed int }{
		{-1 << 63, 0, 0}, {-1<<63 + 1, 0, 0}, {-1, 0, 0}, {0, 0, 0},
		{1, 2, 2}, {2, 6, 4}, {3, 9, 3}, {4, 10, 1},
		{5, 10, 0}, {6, 10, 0}, {1<<63 - 2, 10, 0}, {1<<63 - 1, 10, 0},
	} {
		if at, s := k.At(1, x.t), k.Speed(1, x.t); at != x.at || s != x.speed {
			t.Errorf("at %d: the place %d, the speed %d, want %+v", x.t, at, s, x)
		}
	}
}

// P9.1, P9.2, P9.3: of a run that there is not, nothing is told.
func TestNoSuchRun(t *testing.T) {
	for _, p := range some() {
		k := made(t, p)
		for _, n := range noRuns() {
			if l := k.Profile(n); len(l) != 0 || k.Time(n) != 0 {
				t.Fatalf("%v: Profile(%d): %v, Time: %d", p, n, l, k.Time(n))
			}
			for _, at := range ticks(20) {
				if k.At(n, at) != 0 || k.Speed(n, at) != 0 {
					t.Fatalf("%v: At(%d, %d): %d, Speed: %d", p, n, at, k.At(n, at), k.Speed(n, at))
				}
				if c, f := k.Stop(n, at); c != 0 || f != 0 {
					t.Fatalf("%v: Stop(%d, %d): %d, %d", p, n, at, c, f)
				}
			}
			for _, length := range append(ends(), -1, 0, 1, 2, 3) {
				if l := k.Windows(n, length); len(l) != 0 {
					t.Fatalf("%v: Windows(%d, %d): %v", p, n, length, l)
				}
			}
		}
	}
}

// P9.2: stops at each tick of runs of small numbers, and about them.
func TestStop(t *testing.T) {
	for _, p := range append(small(), plain{10, 2, 4}, plain{5, 9, 3}, plain{12, 4, 12}, plain{30, 1, 6}, plain{16, 5, 999}, plain{1, 1, 1000}, plain{1000, 1000, 1000}, plain{1, 1000, 1000}) {
		k := made(t, p)
		for _, n := range []int{1, 2, 3, 8, 16} {
			stops(t, k, p, n, ticks(k.Time(n)))
		}
	}
}

// P9.2: stops of greater numbers, at ticks of all parts of their runs.
func TestStopOfManyNumbers(t *testing.T) {
	for _, p := range append(some(), chosen(60)...) {
		k := made(t, p)
		for _, n := range []int{1, 4, 16} {
			all := k.Time(n)
			at := []int{0, 1, 2, all - 2, all - 1, all, all + 1}
			for tick := 1; tick < all; tick += 1 + all/40 {
				at = append(at, tick)
			}
			stops(t, k, p, n, at)
		}
	}
}

// P9.2: stops, written out.
func TestStopWrittenOut(t *testing.T) {
	for _, x := range []struct {
		p    plain
		n    int
		want [][2]int // from tick 0 on
	}{
		{plain{10, 2, 4}, 1, [][2]int{{0, 0}, {1, 4}, {1, 2}, {1, 1}, {1, 0}, {1, 0}}},
		{plain{10, 2, 4}, 2, [][2]int{{0, 0}, {1, 4}, {1, 2}, {2, 3}, {2, 2}, {2, 1}, {2, 0}, {2, 0}}},
		{plain{1, 1, 1}, 3, [][2]int{{0, 0}, {1, 0}, {2, 0}, {3, 0}, {3, 0}}},
		{plain{10, 10, 10}, 3, [][2]int{{0, 0}, {1, 0}, {2, 0}, {3, 0}, {3, 0}}},
		{plain{5, 9, 3}, 2, [][2]int{{0, 0}, {1, 1}, {2, 2}, {2, 1}, {2, 0}}},
		{plain{2, 3, 10}, 4, [][2]int{{0, 0}, {2, 1}, {4, 1}, {4, 0}}},
	} {
		k := made(t, x.p)
		for tick, want := range x.want {
			if c, f := k.Stop(x.n, tick); c != want[0] || f != want[1] {
				t.Errorf("%v: Stop(%d, %d): %d, %d, want %v", x.p, x.n, tick, c, f, want)
			}
		}
		for _, tick := range ends() {
			want := [2]int{}
			if tick > 0 {
				want = [2]int{x.n, 0}
			}
			if c, f := k.Stop(x.n, tick); c != want[0] || f != want[1] {
				t.Errorf("%v: Stop(%d, %d): %d, %d, want %v", x.p, x.n, tick, c, f, want)
			}
		}
	}
	// Slower than a run that goes on: at speed 1 it crawls to the cell's end.
	if c, f := made(t, plain{1000, 1, 1000}).Stop(1, 1); c != 1 || f != 999 {
		t.Error(c, f)
	}
}

// P9.3: windows, written out; where only an end is in common, the cell is not taken.
func TestWindowsWrittenOut(t *testing.T) {
	for _, x := range []struct {
		p         plain
		n, length int
		want      [][2]int
	}{
		{plain{10, 2, 4}, 1, 2, [][2]int{{0, 4}, {0, 4}, {0, 4}}},
		{plain{10, 2, 4}, 1, 1, [][2]int{{0, 4}, {0, 4}}},
		{plain{10, 2, 4}, 2, 1, [][2]int{{0, 3}, {0, 6}, {3, 6}}},
		{plain{10, 2, 4}, 2, 2, [][2]int{{0, 3}, {0, 6}, {0, 6}, {3, 6}}},
		{plain{1, 1, 1}, 3, 1, [][2]int{{0, 1}, {0, 2}, {1, 3}, {2, 3}}},
		{plain{1, 1, 1}, 3, 2, [][2]int{{0, 1}, {0, 2}, {0, 3}, {1, 3}, {2, 3}}},
		{plain{1, 1000, 1000}, 2, 2, [][2]int{{0, 1}, {0, 1}, {0, 1}, {0, 1}}},
	} {
		if got := made(t, x.p).Windows(x.n, x.length); !slices.Equal(got, x.want) {
			t.Errorf("%v: Windows(%d, %d): %v, want %v", x.p, x.n, x.length, got, x.want)
		}
	}
}

// P9.3: of a robot of another length there are no windows.
func TestWindowsOfOtherLengths(t *testing.T) {
	for _, p := range some() {
		k := made(t, p)
		for n := 1; n <= 16; n++ {
			for _, length := range append(ends(), 0, 3, 4, 16, -1, -2) {
				if l := k.Windows(n, length); len(l) != 0 {
					t.Fatalf("%v: Windows(%d, %d): %v", p, n, length, l)
				}
			}
		}
	}
}
