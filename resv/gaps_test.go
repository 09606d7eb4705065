package resv_test

import (
	"slices"
	"testing"

	"skep/api"
	"skep/resv"
)

// gapCase is a cell's slots, and the stretches that no other robot than 0 has.
type gapCase struct {
	slots []api.Slot
	want  []stretch
}

func gapCases() []gapCase {
	return []gapCase{
		{nil, []stretch{{0, end}}},
		{[]api.Slot{slot(0, 0, end)}, []stretch{{0, end}}},
		{[]api.Slot{slot(0, 0, 3), slot(0, 5, 9), slot(0, end-1, end)}, []stretch{{0, end}}},
		{[]api.Slot{slot(1, 0, end)}, nil},
		{[]api.Slot{slot(1, 5, 9)}, []stretch{{0, 5}, {9, end}}},
		{[]api.Slot{slot(1, 0, 1)}, []stretch{{1, end}}},
		{[]api.Slot{slot(1, 1, 2)}, []stretch{{0, 1}, {2, end}}},
		{[]api.Slot{slot(1, end-1, end)}, []stretch{{0, end - 1}}},
		{[]api.Slot{slot(1, end-2, end-1)}, []stretch{{0, end - 2}, {end - 1, end}}},
		{[]api.Slot{slot(1, 0, 4), slot(2, end-3, end)}, []stretch{{4, end - 3}}},
		{[]api.Slot{slot(1, 3, 5), slot(2, 5, 8)}, []stretch{{0, 3}, {8, end}}},
		{[]api.Slot{slot(1, 0, 5), slot(2, 5, 8), slot(1, 8, 9)}, []stretch{{9, end}}},
		{[]api.Slot{slot(1, 0, 5), slot(2, 5, end)}, nil},
		{[]api.Slot{slot(1, 3, 5), slot(1, 6, 8)}, []stretch{{0, 3}, {5, 6}, {8, end}}},
		{[]api.Slot{slot(1, 3, 5), slot(0, 5, 6), slot(1, 6, 8)}, []stretch{{0, 3}, {5, 6}, {8, end}}},
		{[]api.Slot{slot(1, 3, 5), slot(0, 6, 7), slot(2, 9, 10)}, []stretch{{0, 3}, {5, 9}, {10, end}}},
		{[]api.Slot{slot(0, 0, 3), slot(1, 3, 5), slot(0, 6, 7), slot(0, 8, 9), slot(2, 9, 10), slot(0, 10, end)}, []stretch{{0, 3}, {5, 9}, {10, end}}},
		{[]api.Slot{slot(0, 1, 2), slot(1, 2, 3), slot(0, 3, 4), slot(2, 4, 5), slot(3, 5, end)}, []stretch{{0, 2}, {3, 4}}},
	}
}

// P11.3: the longest stretches that no other robot has, rising; gone through twice, and broken off behind each of them.
func TestGaps(t *testing.T) {
	for _, c := range gapCases() {
		x := laid(t, 3, 1, c.slots...)
		for range 2 {
			if got := gaps(x, 1, 0, 99); !slices.Equal(got, c.want) {
				t.Errorf("Gaps of %v: %v, want %v", c.slots, got, c.want)
			}
		}
		for most := 1; most <= len(c.want); most++ {
			if got := gaps(x, 1, 0, most); !slices.Equal(got, c.want[:most]) {
				t.Errorf("Gaps of %v, %d of them: %v, want %v", c.slots, most, got, c.want[:most])
			}
		}
		for _, cell := range []int{0, 2} {
			if got := gaps(x, cell, 0, 99); !slices.Equal(got, []stretch{{0, end}}) {
				t.Errorf("Gaps of a cell without slots: %v", got)
			}
		}
	}
}

// R6: one iterator is gone through again and again, broken off or not, and each time begins anew; to go through it changes nothing.
func TestGapsAgain(t *testing.T) {
	for _, c := range gapCases() {
		x := laid(t, 2, 0, c.slots...)
		seq := x.Gaps(0, 0)
		for most := range 2 * (len(c.want) + 1) {
			var got []stretch
			for from, to := range seq {
				got = append(got, stretch{from, to})
				if len(got) > most {
					break
				}
			}
			if n := min(most+1, len(c.want)); !slices.Equal(got, c.want[:n]) {
				t.Errorf("Gaps of %v: %v, want %v", c.slots, got, c.want[:n])
			}
		}
		has(t, x, 0, c.slots...)
	}
}

// P11.3: to a robot that has nothing there, or that there cannot be, all slots are others'.
func TestGapsForOthers(t *testing.T) {
	x := laid(t, 1, 0, slot(0, 2, 4), slot(1, 4, 6), slot(0, 8, 9))
	for robot, want := range map[int][]stretch{
		0:  {{0, 4}, {6, end}},
		1:  {{0, 2}, {4, 8}, {9, end}},
		2:  {{0, 2}, {6, 8}, {9, end}},
		-1: {{0, 2}, {6, 8}, {9, end}},
	} {
		if got := gaps(x, 0, robot, 99); !slices.Equal(got, want) {
			t.Errorf("Gaps for %d: %v, want %v", robot, got, want)
		}
	}
	for _, robot := range ends() {
		if got := gaps(x, 0, robot, 99); len(got) != 3 {
			t.Errorf("Gaps for %d: %v", robot, got)
		}
	}
}

// P11.3: of a cell that is not there there is none, and what is answered can be gone through.
func TestGapsOfNoCell(t *testing.T) {
	x := laid(t, 4, 3, slot(1, 2, 4))
	for _, cell := range append(ends(), -4, -1, 4, 5) {
		for robot := -1; robot < 3; robot++ {
			if got := gaps(x, cell, robot, 99); len(got) != 0 {
				t.Errorf("Gaps of %d: %v", cell, got)
			}
		}
	}
}

// R6: gaps that were asked for are what was there then, whatever is turned behind it or while they are gone through.
func TestGapsStay(t *testing.T) {
	turns := []func(x *resv.Table){
		func(x *resv.Table) { x.Claim(2, []resv.Want{{To: 2}, {From: 6, To: 8}, {From: 20, To: end}}) },
		func(x *resv.Table) { x.Claim(1, []resv.Want{{To: 12}}) },
		func(x *resv.Table) { x.Extend(1, 0, 3, 2) },
		func(x *resv.Table) { x.Release(1, 11) },
		func(x *resv.Table) { x.Expire(11) },
		func(x *resv.Table) { x.Clear(1) },
	}
	want := []stretch{{0, 3}, {5, 10}, {12, end}}
	for i, turn := range turns {
		x := laid(t, 1, 0, slot(1, 3, 5), slot(1, 10, 12))
		seq := x.Gaps(0, 0)
		for range 2 {
			var got []stretch
			for from, to := range seq {
				got = append(got, stretch{from, to})
				turn(x)
			}
			if !slices.Equal(got, want) {
				t.Errorf("turn %d: %v, want %v", i, got, want)
			}
		}
		if slices.Equal(gaps(x, 0, 0, 99), want) {
			t.Errorf("turn %d turned nothing", i)
		}
	}
}
