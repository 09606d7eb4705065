package book_test

import (
	"slices"
	"testing"

	"skep/api"
	"skep/book"
)

// readyCase is jobs' ends and robots, and which of them are ready.
type readyCase struct {
	ends   [][2]int
	robots []int
	want   []int
}

// spot is the cell that a number stands for.
func spot(i int) api.Cell { return at(i%3, i/3) }

// jobs is a case's jobs, with IDs from 1 on.
func (x readyCase) jobs() []api.Job {
	var out []api.Job
	for i, l := range x.ends {
		out = append(out, api.Job{ID: i + 1, Kind: 1 + i%4, Order: 9 - i, Bin: 30 + i, From: spot(l[0]), To: spot(l[1]), Robot: x.robots[i]})
	}
	return out
}

// told is those of a case's jobs that are ready.
func (x readyCase) told() []api.Job {
	var out []api.Job
	for _, i := range x.want {
		out = append(out, x.jobs()[i])
	}
	return out
}

func readyCases() []readyCase {
	return []readyCase{
		{nil, nil, nil},
		{[][2]int{{0, 1}}, []int{-1}, []int{0}},
		{[][2]int{{0, 1}}, []int{0}, nil},
		{[][2]int{{0, 1}}, []int{3}, nil},
		{[][2]int{{0, 1}, {2, 3}, {4, 5}}, []int{-1, -1, -1}, []int{0, 1, 2}},
		{[][2]int{{0, 1}, {2, 3}, {4, 5}}, []int{-1, 0, -1}, []int{0, 2}},
		{[][2]int{{0, 1}, {2, 3}, {4, 5}}, []int{1, -1, 0}, []int{1}},
		{[][2]int{{0, 1}, {2, 3}, {4, 5}}, []int{0, 1, 2}, nil},
		// From in common, To in common, From with To, To with From, both, both the other way.
		{[][2]int{{0, 1}, {0, 2}}, []int{-1, -1}, []int{0}},
		{[][2]int{{0, 1}, {2, 1}}, []int{-1, -1}, []int{0}},
		{[][2]int{{0, 1}, {1, 2}}, []int{-1, -1}, []int{0}},
		{[][2]int{{0, 1}, {2, 0}}, []int{-1, -1}, []int{0}},
		{[][2]int{{0, 1}, {0, 1}}, []int{-1, -1}, []int{0}},
		{[][2]int{{0, 1}, {1, 0}}, []int{-1, -1}, []int{0}},
		// The same with one ahead that a robot has.
		{[][2]int{{0, 1}, {0, 2}}, []int{0, -1}, nil},
		{[][2]int{{0, 1}, {2, 1}}, []int{0, -1}, nil},
		{[][2]int{{0, 1}, {1, 2}}, []int{0, -1}, nil},
		{[][2]int{{0, 1}, {2, 0}}, []int{0, -1}, nil},
		// One behind is no matter.
		{[][2]int{{0, 1}, {1, 0}}, []int{-1, 0}, []int{0}},
		{[][2]int{{0, 1}, {2, 3}, {3, 0}}, []int{-1, -1, 1}, []int{0, 1}},
		// One ahead that is not ready itself holds others up too, with a robot and without.
		{[][2]int{{0, 1}, {1, 2}, {2, 3}}, []int{-1, -1, -1}, []int{0}},
		{[][2]int{{0, 1}, {1, 2}, {3, 2}}, []int{-1, -1, -1}, []int{0}},
		{[][2]int{{0, 1}, {1, 2}, {2, 3}}, []int{0, 1, -1}, nil},
		{[][2]int{{0, 1}, {1, 2}, {2, 3}, {3, 4}, {5, 6}}, []int{-1, -1, -1, -1, -1}, []int{0, 4}},
		// Not the next one ahead alone.
		{[][2]int{{0, 1}, {2, 3}, {4, 5}, {6, 1}, {7, 8}}, []int{-1, -1, -1, -1, -1}, []int{0, 1, 2, 4}},
		{[][2]int{{0, 1}, {2, 3}, {4, 5}, {0, 6}, {2, 7}, {8, 7}}, []int{0, -1, -1, -1, -1, -1}, []int{1, 2}},
		// From and To the same.
		{[][2]int{{0, 0}, {1, 1}, {2, 0}, {1, 3}}, []int{-1, -1, -1, -1}, []int{0, 1}},
		{[][2]int{{0, 1}, {1, 1}}, []int{-1, -1}, []int{0}},
		// A dig-out, and another one beside it.
		{[][2]int{{0, 1}, {0, 2}, {0, 3}, {2, 0}, {1, 0}, {4, 5}, {4, 6}}, []int{-1, -1, -1, -1, -1, -1, -1}, []int{0, 5}},
		{[][2]int{{0, 2}, {0, 3}, {2, 0}, {1, 0}, {4, 5}, {4, 6}}, []int{0, -1, -1, -1, -1, -1}, []int{4}},
		// A robot of any number but -1 is one.
		{[][2]int{{0, 1}, {2, 3}, {4, 5}, {6, 7}}, []int{-2, 7, -1, 99}, []int{2}},
	}
}

// P15.5: the jobs whose Robot is -1 and that have no cell in common with one ahead, in order, each as it stands in Jobs.
func TestReady(t *testing.T) {
	for _, x := range readyCases() {
		s := api.State{Jobs: x.jobs()}
		for range 2 {
			if got := ready(s, 99); !slices.Equal(got, x.told()) {
				t.Errorf("Ready of %v: %v, want %v", s.Jobs, got, x.told())
			}
		}
		for most := 1; most <= len(x.want); most++ {
			if got := ready(s, most); !slices.Equal(got, x.told()[:most]) {
				t.Errorf("Ready of %v, %d of them: %v, want %v", s.Jobs, most, got, x.told()[:most])
			}
		}
	}
}

// R6: one iterator is gone through again and again, broken off or not, and each time begins anew; two at a time do not meddle.
func TestReadyAgain(t *testing.T) {
	for _, x := range readyCases() {
		seq := book.Ready(api.State{Jobs: x.jobs()})
		for most := range 2 * (len(x.want) + 1) {
			var got []api.Job
			for j := range seq {
				got = append(got, j)
				if len(got) > most {
					break
				}
			}
			if n := min(most+1, len(x.want)); !slices.Equal(got, x.told()[:n]) {
				t.Errorf("Ready of %v: %v, want %v", x.jobs(), got, x.told()[:n])
			}
		}
		for range seq {
			if got := slices.Collect(seq); !slices.Equal(got, x.told()) {
				t.Errorf("Ready of %v, in the midst: %v", x.jobs(), got)
			}
		}
	}
}

// R3, R6: what was asked for stays, whatever becomes of the state's list, ahead of going through and in the midst.
func TestReadyStays(t *testing.T) {
	for _, x := range readyCases() {
		s := api.State{Jobs: x.jobs()}
		seq := book.Ready(s)
		for range 2 {
			var got []api.Job
			for j := range seq {
				got = append(got, j)
				for i := range s.Jobs {
					s.Jobs[i] = api.Job{ID: 99, From: spot(i), To: spot(0), Robot: -1}
				}
			}
			if !slices.Equal(got, x.told()) {
				t.Errorf("Ready of %v: %v, want %v", x.jobs(), got, x.told())
			}
			for i := range s.Jobs {
				s.Jobs[i] = api.Job{ID: 98, From: spot(8), To: spot(8), Robot: 2}
			}
		}
	}
}

// P15.5: nothing of the state but its jobs is looked at; the jobs are those of the chapter's words done plainly.
func TestReadyByTheWords(t *testing.T) {
	var luck chance = 13
	some, behind := 0, 0
	for range 20000 {
		c := drawConf(&luck)
		s := drawState(&luck, c)
		mayBe(t, c, s)
		want := plainReady(s)
		if got := ready(s, 999); !slices.Equal(got, want) {
			t.Fatalf("Ready of %v: %v, want %v", s.Jobs, got, want)
		}
		if got := ready(api.State{Jobs: s.Jobs}, 999); !slices.Equal(got, want) {
			t.Fatalf("Ready of %v: %v, want %v", s.Jobs, got, want)
		}
		if len(want) > 1 {
			some++
		}
		if len(want) > 0 && len(want) < len(s.Jobs) {
			behind++
		}
	}
	if some < 500 || behind < 500 {
		t.Errorf("%d with some, %d with some behind others", some, behind)
	}
}

// P15.5: the cells of two that are ready are never the same, so that two robots may do them at a time; and the first job, if nobody has it, is ready.
func TestReadyAreApart(t *testing.T) {
	var luck chance = 17
	for range 5000 {
		c := drawConf(&luck)
		s := drawState(&luck, c)
		l := ready(s, 999)
		if n := len(book.Touched(api.State{Jobs: l})); n != 2*len(l) {
			t.Fatal(l)
		}
		if len(s.Jobs) > 0 && s.Jobs[0].Robot == -1 && (len(l) == 0 || l[0] != s.Jobs[0]) {
			t.Fatal(s.Jobs, l)
		}
	}
}

// P15.5: very many jobs, all ready, and all but two behind others.
func TestReadyMany(t *testing.T) {
	var near, far []api.Job
	for i := range 200000 {
		near = append(near, away(1, at(i/100000, 1), at(i/100000, 2)))
		far = append(far, away(1, at(i, 0), at(0, i+1)))
	}
	if l := ready(api.State{Jobs: near}, 999999); len(l) != 2 {
		t.Error(len(l))
	}
	if l := ready(api.State{Jobs: far}, 999999); !slices.Equal(l, far) {
		t.Error(len(l))
	}
}
