package kinem_test

import (
	"math"
	"slices"
	"testing"

	"skep/api"
	"skep/kinem"
)

// chance is numbers that look like any, the same at each run.
type chance uint64

func (c *chance) below(n int) int {
	*c = *c*6364136223846793005 + 1442695040888963407
	return int(uint64(*c)>>33) % n
}

// plain is how robots go, by the chapter's words.
type plain struct {
	unit, accel, speed int
}

// some is numbers of each kind: the least and the greatest, an acceleration above the speed, a speed above the unit, and such as lie between.
func some() []plain {
	return []plain{
		{10, 2, 4}, {1, 1, 1}, {1000, 1000, 1000},
		{5, 9, 3}, {40, 1000, 7}, {1000, 1000, 1}, {1, 1000, 1},
		{2, 3, 10}, {1, 1, 1000}, {1, 1000, 1000}, {3, 1, 1000}, {16, 5, 999},
		{1000, 1, 1000}, {1000, 1, 1}, {1000, 7, 90}, {999, 333, 1000}, {100, 100, 100}, {10, 10, 10}, {12, 4, 12}, {30, 1, 6},
	}
}

// small is all numbers up to a few.
func small() []plain {
	var out []plain
	for unit := 1; unit <= 7; unit++ {
		for accel := 1; accel <= 5; accel++ {
			for speed := 1; speed <= 9; speed++ {
				out = append(out, plain{unit, accel, speed})
			}
		}
	}
	return out
}

// chosen is numbers that look like any.
func chosen(n int) []plain {
	var luck chance = 9
	var out []plain
	for range n {
		out = append(out, plain{1 + luck.below(200), 1 + luck.below(1+luck.below(60)), 1 + luck.below(150)})
	}
	return out
}

// made is the Kin of these numbers; it fails, if there is none.
func made(t *testing.T, p plain) *kinem.Kin {
	t.Helper()
	k, e := kinem.New(p.unit, p.accel, p.speed)
	if k == nil || e != api.OK {
		t.Fatalf("New of %v: %v, error %d", p, k, e)
	}
	return k
}

// ends is numbers near the ends of their range, and near powers of two at which they could be cut or wrap round.
func ends() []int {
	out := []int{math.MinInt, math.MinInt + 1, math.MaxInt - 1, math.MaxInt}
	for _, i := range []int{8, 16, 31, 32, 40, 53, 62} {
		out = append(out, 1<<i, 1<<i+1, 1<<i-1, -1<<i, -1<<i+1, -1<<i-1)
	}
	return out
}

// noRuns is numbers of cells of which there is no run.
func noRuns() []int {
	return append(ends(), 0, -1, -2, -16, 17, 18, 32, 100)
}

// ticks is ticks at which a run of so many ticks is asked: each of it, those about it, and ones near the ends of their range.
func ticks(all int) []int {
	out := ends()
	for t := -3; t <= all+3; t++ {
		out = append(out, t)
	}
	return out
}

// brake is how far it goes until it can stand.
func (p plain) brake(s int) int {
	s = max(0, min(s, p.speed))
	sum := 0
	for i := 1; s-i*p.accel > 0; i++ {
		sum += s - i*p.accel
	}
	return sum
}

// next is the next speed, where r units are left, the speed was s, and it may be at most v.
func (p plain) next(r, s, v int) int {
	greatest := 0
	for q := 1; q <= s+p.accel && q <= v && q <= r; q++ {
		if p.brake(q) <= r-q {
			greatest = q
		}
	}
	return greatest
}

// profile is the places behind each tick of a run.
func (p plain) profile(n int) []int {
	if n < 1 || n > 16 {
		return nil
	}
	var out []int
	place, s := 0, 0
	for place < n*p.unit {
		s = p.next(n*p.unit-place, s, p.speed)
		place += s
		out = append(out, place)
	}
	return out
}

// place is the place of a run of this profile behind t ticks.
func place(profile []int, t int) int {
	switch {
	case t < 1 || len(profile) == 0:
		return 0
	case t > len(profile):
		return profile[len(profile)-1]
	}
	return profile[t-1]
}

// pace is the speed of a run of this profile in the tick t.
func pace(profile []int, t int) int {
	if t < 1 {
		return 0
	}
	return place(profile, t) - place(profile, t-1)
}

// stop is how a run of n cells, of this profile, ends that is stopped behind t ticks.
func (p plain) stop(profile []int, n, t int) (int, int) {
	switch {
	case t < 1 || len(profile) == 0:
		return 0, 0
	case t >= len(profile):
		return n, 0
	}
	at, s := place(profile, t), pace(profile, t)
	cells := 0
	for cells*p.unit < at+p.brake(s) {
		cells++
	}
	further := 0
	for at < cells*p.unit {
		s = p.next(cells*p.unit-at, s, s)
		at += s
		further++
	}
	return cells, further
}

// windows is each cell's window of a run of n cells, of this profile, held against the places tick by tick.
func (p plain) windows(profile []int, n, length int) [][2]int {
	if len(profile) == 0 || length < 1 || length > 2 {
		return nil
	}
	var out [][2]int
	for j := 0; j <= n+length-1; j++ {
		var there []int
		for t := 0; t <= len(profile)-1; t++ {
			from, to := place(profile, t), place(profile, t+1)+length*p.unit
			common := min(to, (j+1)*p.unit) - max(from, j*p.unit)
			if common > 0 {
				there = append(there, t)
			}
		}
		out = append(out, [2]int{slices.Min(there), slices.Max(there) + 1})
	}
	return out
}

// same fails unless all that is told of a run, but for its stops, is what the chapter's words say.
func same(t *testing.T, k *kinem.Kin, p plain, n int) {
	t.Helper()
	want := p.profile(n)
	if got := k.Profile(n); !slices.Equal(got, want) {
		t.Fatalf("%v: Profile(%d): %v, want %v", p, n, got, want)
	}
	if got := k.Time(n); got != len(want) {
		t.Fatalf("%v: Time(%d): %d, want %d", p, n, got, len(want))
	}
	for _, at := range ticks(len(want)) {
		if got := k.At(n, at); got != place(want, at) {
			t.Fatalf("%v: At(%d, %d): %d, want %d", p, n, at, got, place(want, at))
		}
		if got := k.Speed(n, at); got != pace(want, at) {
			t.Fatalf("%v: Speed(%d, %d): %d, want %d", p, n, at, got, pace(want, at))
		}
	}
	for _, length := range []int{1, 2} {
		if got := k.Windows(n, length); !slices.Equal(got, p.windows(want, n, length)) {
			t.Fatalf("%v: Windows(%d, %d): %v, want %v", p, n, length, got, p.windows(want, n, length))
		}
	}
}

// stops fails unless a run's stop at each of these ticks is what the chapter's words say.
func stops(t *testing.T, k *kinem.Kin, p plain, n int, at []int) {
	t.Helper()
	profile := p.profile(n)
	for _, tick := range at {
		cells, further := p.stop(profile, n, tick)
		if c, f := k.Stop(n, tick); c != cells || f != further {
			t.Fatalf("%v: Stop(%d, %d): %d, %d, want %d, %d", p, n, tick, c, f, cells, further)
		}
	}
}
