package resv_test

import (
	"math"
	"testing"

	"skep/api"
	"skep/resv"
)

// some is a cell's slots of three robots, with room between some of them.
func some() []api.Slot {
	return []api.Slot{slot(0, 5, 10), slot(1, 13, 15), slot(0, 20, 22), slot(0, 24, 26), slot(2, 26, 30), slot(1, end-5, end-3)}
}

// P11.4: ErrNone, if there is no such cell, no slot with that tick, or it is another robot's, even if it would be taken too.
func TestExtendNone(t *testing.T) {
	x := laid(t, 3, 1, some()...)
	for _, cell := range append(ends(), -2, -1, 0, 2, 3, 4) {
		extends(t, x, 0, cell, 5, 1, api.ErrNone)
	}
	for _, at := range append(ends(), -1, 0, 4, 10, 11, 12, 13, 14, 15, 19, 22, 23, 26, 30, end-5, end-4, end-1, end) {
		extends(t, x, 0, 1, at, 1, api.ErrNone)
		extends(t, x, 0, 1, at, end, api.ErrNone)
	}
	for _, robot := range append(ends(), -1, 1, 2, 3) {
		for at := 5; at < 10; at++ {
			extends(t, x, robot, 1, at, 1, api.ErrNone)
		}
	}
	has(t, x, 1, some()...)
	has(t, x, 0)
}

// P11.4: a slot grows up to another robot's, and not by one tick more, whichever of its ticks is named.
func TestExtendTaken(t *testing.T) {
	for at := 5; at < 10; at++ {
		for _, by := range []int{4, 5, 6, 7, 8, 10, 16, 17, 1000, end - 10, end, math.MaxInt} {
			x := laid(t, 3, 1, some()...)
			extends(t, x, 0, 1, at, by, api.ErrTaken)
			has(t, x, 1, some()...)
		}
		for by := 1; by <= 3; by++ {
			x := laid(t, 3, 1, some()...)
			extends(t, x, 0, 1, at, by, api.OK)
			l := some()
			l[0].To = 10 + by
			has(t, x, 1, l...)
			has(t, x, 0)
			has(t, x, 2)
		}
	}
	x := laid(t, 1, 0, slot(0, 0, 5), slot(1, 5, 6))
	extends(t, x, 0, 0, 4, 1, api.ErrTaken)
	extends(t, x, 1, 0, 5, 1, api.OK)
	has(t, x, 0, slot(0, 0, 5), slot(1, 5, 7))
}

// P11.4: by below 0 and 0 changes nothing, even where another robot's slot touches.
func TestExtendByNothing(t *testing.T) {
	x := laid(t, 2, 1, some()...)
	for _, by := range append(ends(), -1, -2, -100, 0) {
		if by > 0 {
			continue
		}
		extends(t, x, 0, 1, 25, by, api.OK)
		extends(t, x, 0, 1, 5, by, api.OK)
		extends(t, x, 2, 1, 26, by, api.OK)
		extends(t, x, 1, 1, 24, by, api.ErrNone)
	}
	has(t, x, 1, some()...)
}

// P11.4: a To that would go beyond Forever is Forever.
func TestExtendToForever(t *testing.T) {
	for _, by := range []int{3, 4, 5, 100, end - 1, end, end + 1, math.MaxInt - 1, math.MaxInt} {
		x := laid(t, 2, 1, some()...)
		extends(t, x, 1, 1, end-4, by, api.OK)
		l := some()
		l[5].To = end
		has(t, x, 1, l...)
		extends(t, x, 1, 1, end-1, by, api.OK)
		has(t, x, 1, l...)
	}
	x := laid(t, 1, 0, slot(0, 3, 4), slot(1, end-1, end))
	extends(t, x, 0, 0, 3, math.MaxInt, api.ErrTaken)
	extends(t, x, 0, 0, 3, end-4, api.ErrTaken)
	extends(t, x, 0, 0, 3, end-5, api.OK)
	has(t, x, 0, slot(0, 3, end-1), slot(1, end-1, end))
}

// P11.4: with what of its own it meets or touches behind it a slot is one.
func TestExtendMeetsOwn(t *testing.T) {
	own := []api.Slot{slot(3, 0, 2), slot(3, 4, 6), slot(3, 10, 12), slot(3, 15, 20), slot(1, 30, 31)}
	for _, c := range []struct {
		by   int
		want []api.Slot
	}{
		{1, []api.Slot{own[0], slot(3, 4, 7), own[2], own[3], own[4]}},
		{3, []api.Slot{own[0], slot(3, 4, 9), own[2], own[3], own[4]}},
		{4, []api.Slot{own[0], slot(3, 4, 12), own[3], own[4]}},
		{5, []api.Slot{own[0], slot(3, 4, 12), own[3], own[4]}},
		{6, []api.Slot{own[0], slot(3, 4, 12), own[3], own[4]}},
		{7, []api.Slot{own[0], slot(3, 4, 13), own[3], own[4]}},
		{9, []api.Slot{own[0], slot(3, 4, 20), own[4]}},
		{12, []api.Slot{own[0], slot(3, 4, 20), own[4]}},
		{15, []api.Slot{own[0], slot(3, 4, 21), own[4]}},
		{24, []api.Slot{own[0], slot(3, 4, 30), own[4]}},
	} {
		x := laid(t, 1, 0, own...)
		extends(t, x, 3, 0, 5, c.by, api.OK)
		has(t, x, 0, c.want...)
	}
	x := laid(t, 1, 0, own...)
	extends(t, x, 3, 0, 5, 25, api.ErrTaken)
	has(t, x, 0, own...)
}

// two is a table with slots of two robots on two cells of three.
func two(t *testing.T) *resv.Table {
	t.Helper()
	x := laid(t, 3, 0, slot(0, 0, 4), slot(1, 4, 6), slot(0, 8, 10))
	claims(t, x, 0, api.OK, want(2, 5, 6), want(2, 7, end))
	claims(t, x, 1, api.OK, want(2, 1, 5))
	return x
}

// P11.4: Release takes one robot's ticks ahead of upto, on all cells.
func TestRelease(t *testing.T) {
	first, last := []api.Slot{slot(0, 0, 4), slot(1, 4, 6), slot(0, 8, 10)}, []api.Slot{slot(1, 1, 5), slot(0, 5, 6), slot(0, 7, end)}
	for _, c := range []struct {
		upto        int
		first, last []api.Slot
	}{
		{math.MinInt, first, last},
		{-1, first, last},
		{0, first, last},
		{1, []api.Slot{slot(0, 1, 4), slot(1, 4, 6), slot(0, 8, 10)}, last},
		{3, []api.Slot{slot(0, 3, 4), slot(1, 4, 6), slot(0, 8, 10)}, last},
		{4, []api.Slot{slot(1, 4, 6), slot(0, 8, 10)}, last},
		{6, []api.Slot{slot(1, 4, 6), slot(0, 8, 10)}, []api.Slot{slot(1, 1, 5), slot(0, 7, end)}},
		{9, []api.Slot{slot(1, 4, 6), slot(0, 9, 10)}, []api.Slot{slot(1, 1, 5), slot(0, 9, end)}},
		{10, []api.Slot{slot(1, 4, 6)}, []api.Slot{slot(1, 1, 5), slot(0, 10, end)}},
		{end - 1, []api.Slot{slot(1, 4, 6)}, []api.Slot{slot(1, 1, 5), slot(0, end-1, end)}},
		{end, []api.Slot{slot(1, 4, 6)}, []api.Slot{slot(1, 1, 5)}},
		{math.MaxInt, []api.Slot{slot(1, 4, 6)}, []api.Slot{slot(1, 1, 5)}},
	} {
		x := two(t)
		for range 2 {
			x.Release(0, c.upto)
			has(t, x, 0, c.first...)
			has(t, x, 1)
			has(t, x, 2, c.last...)
		}
	}
}

// P11.4: Expire takes everybody's.
func TestExpire(t *testing.T) {
	first, last := []api.Slot{slot(0, 0, 4), slot(1, 4, 6), slot(0, 8, 10)}, []api.Slot{slot(1, 1, 5), slot(0, 5, 6), slot(0, 7, end)}
	for _, c := range []struct {
		upto        int
		first, last []api.Slot
	}{
		{math.MinInt, first, last},
		{-1, first, last},
		{0, first, last},
		{1, []api.Slot{slot(0, 1, 4), slot(1, 4, 6), slot(0, 8, 10)}, last},
		{2, []api.Slot{slot(0, 2, 4), slot(1, 4, 6), slot(0, 8, 10)}, []api.Slot{slot(1, 2, 5), slot(0, 5, 6), slot(0, 7, end)}},
		{4, first[1:], []api.Slot{slot(1, 4, 5), slot(0, 5, 6), slot(0, 7, end)}},
		{5, []api.Slot{slot(1, 5, 6), slot(0, 8, 10)}, last[1:]},
		{6, first[2:], last[2:]},
		{8, first[2:], []api.Slot{slot(0, 8, end)}},
		{10, nil, []api.Slot{slot(0, 10, end)}},
		{end - 1, nil, []api.Slot{slot(0, end-1, end)}},
		{end, nil, nil},
		{math.MaxInt, nil, nil},
	} {
		x := two(t)
		for range 2 {
			x.Expire(c.upto)
			has(t, x, 0, c.first...)
			has(t, x, 1)
			has(t, x, 2, c.last...)
		}
	}
}

// P11.4: Clear takes all of a robot's, on all cells, and nobody else's; what is left of another stays two slots.
func TestClear(t *testing.T) {
	x := two(t)
	x.Clear(1)
	has(t, x, 0, slot(0, 0, 4), slot(0, 8, 10))
	has(t, x, 2, slot(0, 5, 6), slot(0, 7, end))
	x.Clear(0)
	for cell := range 3 {
		has(t, x, cell)
	}
	x = two(t)
	x.Clear(0)
	has(t, x, 0, slot(1, 4, 6))
	has(t, x, 2, slot(1, 1, 5))
	claims(t, x, 2, api.OK, want(0, 0, 4), want(2, 5, end))
}

// P11.4: of a robot that has nothing, or that there cannot be, nothing is taken.
func TestTakeFromNobody(t *testing.T) {
	x := two(t)
	for _, robot := range append(ends(), -1, 2, 3) {
		x.Clear(robot)
		x.Release(robot, 5)
		x.Release(robot, end)
	}
	has(t, x, 0, slot(0, 0, 4), slot(1, 4, 6), slot(0, 8, 10))
	has(t, x, 2, slot(1, 1, 5), slot(0, 5, 6), slot(0, 7, end))
}
