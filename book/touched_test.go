package book_test

import (
	"slices"
	"testing"

	"skep/api"
	"skep/book"
)

// touches fails unless Touched of these jobs answers just these cells.
func touches(t *testing.T, jobs []api.Job, want ...api.Cell) {
	t.Helper()
	if got := book.Touched(api.State{Jobs: jobs}); !slices.Equal(got, want) {
		t.Fatalf("Touched of %v: %v, want %v", jobs, got, want)
	}
}

// P15.2: From and To of each job, in their order, each cell once.
func TestTouched(t *testing.T) {
	a, b, c, d := at(2, 1), at(0, 0), at(1, 1), at(5, 0)
	touches(t, nil)
	touches(t, []api.Job{})
	touches(t, []api.Job{away(7, a, b)}, a, b)
	touches(t, []api.Job{away(7, b, a)}, b, a)
	touches(t, []api.Job{away(7, a, b), again(7, c, d)}, a, b, c, d)
	touches(t, []api.Job{away(7, a, b), again(7, b, a)}, a, b)
	touches(t, []api.Job{away(7, a, b), away(7, a, b)}, a, b)
	touches(t, []api.Job{away(7, a, b), away(8, a, c), fetch(9, a, d), again(8, c, a), again(7, b, a)}, a, b, c, d)
	touches(t, []api.Job{away(7, d, c), away(8, b, c), away(9, c, a)}, d, c, b, a)
	touches(t, []api.Job{away(7, d, c), away(8, c, d), away(9, a, d)}, d, c, a)
	// From and To the same.
	touches(t, []api.Job{away(7, a, a)}, a)
	touches(t, []api.Job{away(7, a, a), away(8, a, b), away(9, c, c), away(9, b, b)}, a, b, c)
	touches(t, []api.Job{away(7, b, a), away(8, a, a), away(9, c, d)}, b, a, c, d)
}

// P15.2: who does a job, of what kind it is, whose it is: that is all no matter.
func TestTouchedOfAllJobs(t *testing.T) {
	var jobs []api.Job
	var want []api.Cell
	for i := range 8 {
		jobs = append(jobs, api.Job{ID: i, Kind: i % 5, Order: i, Bin: i, From: at(i, 9), To: at(9, i), Robot: i%4 - 1})
		want = append(want, at(i, 9), at(9, i))
	}
	touches(t, jobs, want...)
}

// P15.2: cells that differ in X or in Y alone, or have the two changed over, are not the same; numbers may be any.
func TestTouchedAnyCells(t *testing.T) {
	touches(t, []api.Job{away(1, at(1, 2), at(2, 1)), away(2, at(1, 1), at(2, 2)), away(3, at(2, 1), at(0, 2))}, at(1, 2), at(2, 1), at(1, 1), at(2, 2), at(0, 2))
	var jobs []api.Job
	var want []api.Cell
	for _, v := range ends() {
		jobs = append(jobs, away(1, at(v, 0), at(0, v)), away(2, at(v, v), at(0, v)), away(3, at(v, 0), at(v, v)))
		want = append(want, at(v, 0), at(0, v), at(v, v))
	}
	touches(t, jobs, want...)
}

// P15.2: nothing of the state but its jobs is looked at; the cells are those of the chapter's words done plainly.
func TestTouchedByTheWords(t *testing.T) {
	var luck chance = 5
	long := 0
	for range 5000 {
		c := drawConf(&luck)
		s := drawState(&luck, c)
		want := plainTouched(s)
		if got := book.Touched(s); !slices.Equal(got, want) {
			t.Fatalf("%v, want %v", got, want)
		}
		touches(t, s.Jobs, want...)
		if len(want) > 4 && len(want) < 2*len(s.Jobs) {
			long++
		}
	}
	if long < 200 {
		t.Errorf("%d long ones", long)
	}
}

// P15.2: very many jobs, on cells of one hive and on ever new ones.
func TestTouchedMany(t *testing.T) {
	var near, far []api.Job
	for i := range 200000 {
		near = append(near, away(1, at(i%16, i/16%16), at(i%7, i%5)))
		far = append(far, away(1, at(i, 0), at(0, i+1)))
	}
	if l := book.Touched(api.State{Jobs: near}); len(l) != 256 {
		t.Error(len(l))
	}
	if l := book.Touched(api.State{Jobs: far}); len(l) != 400000 || l[399999] != at(0, 200000) {
		t.Error(len(l))
	}
}
