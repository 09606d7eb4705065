package resv_test

import (
	"slices"
	"testing"

	"skep/api"
	"skep/resv"
)

// R3: wants stay as they are, spare room included, whether they are taken or refused.
func TestWantsStay(t *testing.T) {
	for _, robot := range []int{0, 1, -1} {
		x := laid(t, 3, 2, slot(0, 7, 9))
		given := append(make([]resv.Want, 0, 9), want(2, 8, 9), want(1, 4, 6), want(1, 2, 5), want(0, 1, 2))
		kept := slices.Clone(given[:cap(given)])
		x.Claim(robot, given)
		x.Claim(robot, given[:2])
		if !slices.Equal(given[:cap(given)], kept) {
			t.Errorf("%v, want %v", given[:cap(given)], kept)
		}
	}
}

// R3: wants that are turned behind a claim turn no table.
func TestWantsAreNotKept(t *testing.T) {
	x := made(t, 3)
	given := []resv.Want{want(2, 8, 9), want(1, 4, 6), want(1, 2, 5)}
	claims(t, x, 5, api.OK, given...)
	if e := x.Claim(5, given); e != api.OK {
		t.Fatal(e)
	}
	for i := range given {
		given[i] = want(0, 70, 77)
	}
	has(t, x, 0)
	has(t, x, 1, slot(5, 2, 6))
	has(t, x, 2, slot(5, 8, 9))
}

// spoil writes over a list and its spare room.
func spoil(l []api.Slot) {
	l = l[:cap(l)]
	for i := range l {
		l[i] = slot(99, -7, -7)
	}
}

// R3, P11.5: what Slots tells is memory of its own: to write into it changes nothing of the table, nor of what else is told.
func TestSlotsAreNewMemory(t *testing.T) {
	x := two(t)
	kept := x.Slots(0)
	seq := x.Gaps(0, 1)
	for cell := -1; cell < 4; cell++ {
		spoil(x.Slots(cell))
		_ = append(x.Slots(cell), slot(99, 50, 60))
	}
	first := []api.Slot{slot(0, 0, 4), slot(1, 4, 6), slot(0, 8, 10)}
	if !slices.Equal(kept, first) {
		t.Error(kept)
	}
	has(t, x, 0, first...)
	has(t, x, 2, slot(1, 1, 5), slot(0, 5, 6), slot(0, 7, end))
	var got []stretch
	for from, to := range seq {
		got = append(got, stretch{from, to})
	}
	if !slices.Equal(got, []stretch{{4, 8}, {10, end}}) {
		t.Error(got)
	}
	// A slot that comes behind spoilt ones must not stand in memory that was told.
	l := x.Slots(0)
	_ = append(l, slot(99, 50, 60))
	claims(t, x, 1, api.OK, want(0, 20, 21))
	_ = append(l, slot(98, 50, 60))
	has(t, x, 0, append(first, slot(1, 20, 21))...)
}

// R3: what was told stays as it was, whatever is claimed, made longer and taken behind it.
func TestToldStays(t *testing.T) {
	first, last := []api.Slot{slot(0, 0, 4), slot(1, 4, 6), slot(0, 8, 10)}, []api.Slot{slot(1, 1, 5), slot(0, 5, 6), slot(0, 7, end)}
	x := two(t)
	a, b := x.Slots(0), x.Slots(2)
	extends(t, x, 1, 0, 5, 2, api.OK)
	claims(t, x, 0, api.OK, want(2, 6, 7), want(0, 10, 20))
	x.Release(0, 2)
	x.Expire(3)
	x.Clear(1)
	claims(t, x, 2, api.OK, want(0, 4, 8), want(2, 0, 5))
	if !slices.Equal(a, first) || !slices.Equal(b, last) {
		t.Error(a, b)
	}
}

// R4: two tables have nothing in common.
func TestNothingInCommon(t *testing.T) {
	var luck chance = 13
	x, m := made(t, 3), modelOf(3, someEdges())
	y, n := made(t, 3), modelOf(3, someEdges())
	for range 400 {
		if luck.below(2) == 0 {
			both(t, x, m, drawCall(&luck, m, 3))
		} else {
			both(t, y, n, drawCall(&luck, n, 3))
		}
		same(t, x, m, 0, 1)
		same(t, y, n, 0, 1)
	}
}

// R4: what is told hangs on the calls alone: the same row tells the same.
func TestSameRowTellsSame(t *testing.T) {
	var one, other chance = 19, 19
	for range 50 {
		x, _ := filled(t, &one)
		y, _ := filled(t, &other)
		for cell := range 3 {
			has(t, y, cell, x.Slots(cell)...)
		}
	}
}
