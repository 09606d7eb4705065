package dig_test

import (
	"slices"
	"testing"

	"skep/api"
	"skep/grid"
	"skep/stacks"
)

// piles is stacks' bins, by their cells, in memory of their own.
func piles(l []api.Stack) map[api.Cell][]int {
	out := map[api.Cell][]int{}
	for _, s := range l {
		out[s.At] = slices.Clone(s.Bins)
	}
	return out
}

// P14.3: done one after the other each job lifts the bin that is highest, and each has room; behind them the bin is gone, all others are there, with Back each where it was.
func TestJobsCanBeDone(t *testing.T) {
	var luck chance = 11
	done, deep, moved := 0, 0, 0
	for range 6000 {
		q := drawTame(&luck, 6)
		jobs, e := q.jobs()
		if e != api.OK {
			continue
		}
		done++
		if len(jobs) > 4 {
			deep++
		}
		g, _ := grid.New(q.c)
		now := piles(q.stacks)
		for _, j := range jobs {
			from := now[j.From]
			if len(from) == 0 || from[len(from)-1] != j.Bin {
				t.Fatalf("%v: not the highest of %v in %v", j, from, jobs)
			}
			now[j.From] = from[:len(from)-1]
			if j.Kind == api.Fetch {
				if j.Bin != q.bin || j.To != q.port {
					t.Fatal(jobs)
				}
				continue
			}
			if !g.Stacked(j.To) || len(now[j.To]) >= q.c.Height || slices.Contains(q.touched, j.To) || j.To == j.From {
				t.Fatalf("%v: no room at %v in %v, touched %v", j, now[j.To], jobs, q.touched)
			}
			now[j.To] = append(now[j.To], j.Bin)
		}
		var all, left []int
		for _, s := range q.stacks {
			want := slices.DeleteFunc(slices.Clone(s.Bins), func(b int) bool { return b == q.bin })
			if !slices.Equal(now[s.At], want) {
				moved++
				if q.c.Back {
					t.Fatalf("%v at %v, want %v, behind %v", now[s.At], s.At, want, jobs)
				}
			}
			all, left = append(all, want...), append(left, now[s.At]...)
		}
		slices.Sort(all)
		slices.Sort(left)
		if !slices.Equal(all, left) {
			t.Fatalf("%v, want %v, behind %v", left, all, jobs)
		}
	}
	if done < 2000 || deep < 200 || moved < 500 {
		t.Errorf("%d done, %d of them deep, %d stacks others than before", done, deep, moved)
	}
}

// P14.3: the same with a robot that lifts and drops by layer 8, in the config's own stacks, for each bin in turn.
func TestJobsCanBeDoneByARobot(t *testing.T) {
	var luck chance = 13
	done := 0
	for range 300 {
		q := drawTame(&luck, 6)
		q.c.Stacks = q.stacks
		for _, s := range q.stacks {
			for _, bin := range s.Bins {
				q.bin = bin
				jobs, e := q.jobs()
				if e != api.OK {
					continue
				}
				done++
				w, e := stacks.New(q.c)
				if e != api.OK {
					t.Fatal(e)
				}
				bins := w.Bins()
				for _, j := range jobs {
					if b, e := w.Lift(0, j.From); b != j.Bin || e != api.OK {
						t.Fatalf("%v lifts %d, error %d", j, b, e)
					}
					if e := w.Drop(0, j.To); e != api.OK {
						t.Fatalf("%v drops: error %d", j, e)
					}
				}
				if w.Top(q.port) != bin || !slices.Equal(w.Bins(), bins) {
					t.Fatal(jobs)
				}
			}
		}
	}
	if done < 2000 {
		t.Errorf("%d done", done)
	}
}

// P14.3: bin by bin, each in the stacks that the one ahead of it left, till a hive is empty.
func TestJobsTillEmpty(t *testing.T) {
	for _, c := range []api.Conf{mixed(), back(mixed())} {
		c.Stacks = []api.Stack{pile(1, 0, 1, 2, 3), pile(2, 0, 4, 5, 6), pile(3, 0, 7, 8, 9), pile(0, 1, 10, 11, 12), pile(2, 1, 13, 14, 15), pile(3, 2, 16, 17, 18)}
		now := c.Stacks
		for bin := 1; bin <= 18; bin++ {
			q := question{c: c, stacks: now, bin: bin, port: at(0, 0)}
			jobs, e := q.jobs()
			if e != api.OK {
				t.Fatal(bin, e)
			}
			left := piles(now)
			for _, j := range jobs {
				from := left[j.From]
				if from[len(from)-1] != j.Bin {
					t.Fatal(j, left)
				}
				left[j.From] = from[:len(from)-1]
				if j.Kind != api.Fetch {
					left[j.To] = append(left[j.To], j.Bin)
				}
			}
			now = nil
			for _, cell := range stackCells() {
				if len(left[cell]) > c.Height {
					t.Fatal(left)
				}
				now = append(now, api.Stack{At: cell, Bins: left[cell]})
			}
			q.stacks = now
			refuses(t, q, api.ErrBin)
		}
		for _, s := range now {
			if len(s.Bins) != 0 {
				t.Error(s)
			}
		}
	}
}
