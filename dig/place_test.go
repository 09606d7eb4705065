package dig_test

import (
	"math"
	"slices"
	"testing"

	"skep/api"
)

// P14.2: the least far; of those alike the first in order.
func TestPlace(t *testing.T) {
	for _, x := range []struct{ from, want api.Cell }{
		{at(1, 1), at(1, 0)}, {at(1, 0), at(2, 0)}, {at(2, 1), at(2, 0)}, {at(0, 1), at(1, 1)}, {at(4, 1), at(3, 0)}, {at(3, 2), at(2, 2)}, {at(3, 0), at(2, 0)},
	} {
		puts(t, mixed(), nil, nil, x.from, x.want, api.OK)
		puts(t, back(mixed()), []api.Stack{}, []api.Cell{}, x.from, x.want, api.OK)
	}
}

// P14.2: never the cell itself, never one with Height bins or more; one with fewer will do.
func TestPlaceHasRoom(t *testing.T) {
	from := at(1, 1)
	l := []api.Stack{{At: from, Bins: []int{1}}, pile(1, 0, 2, 3)}
	puts(t, mixed(), l, nil, from, at(1, 0), api.OK)
	l[1].Bins = []int{2, 3, 4}
	puts(t, mixed(), l, nil, from, at(0, 1), api.OK)
	l[1].Bins = []int{2, 3, 4, 5}
	puts(t, mixed(), l, nil, from, at(0, 1), api.OK)
	l = append(l, pile(0, 1, 6, 7, 8), pile(2, 1, 9, 10, 11), pile(2, 0, 12), pile(1, 0))
	puts(t, mixed(), l, nil, from, at(2, 0), api.OK)
	c := mixed()
	c.Height = 1
	puts(t, c, l, nil, from, at(2, 2), api.OK)
	c.Height = 8
	puts(t, c, l, nil, from, at(1, 0), api.OK)
}

// P14.2: of two stacks for one cell the first counts.
func TestPlaceOfTwoStacks(t *testing.T) {
	full, empty := pile(1, 0, 1, 2, 3), pile(1, 0)
	puts(t, mixed(), []api.Stack{full, empty}, nil, at(1, 1), at(0, 1), api.OK)
	puts(t, mixed(), []api.Stack{empty, full}, nil, at(1, 1), at(1, 0), api.OK)
	puts(t, mixed(), []api.Stack{empty, full, full}, nil, at(1, 1), at(1, 0), api.OK)
}

// P14.2: nothing is given ahead of it: to ask twice is to be told the same, and the config's own stacks take no room.
func TestPlaceGivesNothing(t *testing.T) {
	c := mixed()
	c.Stacks = []api.Stack{pile(1, 0, 1, 2, 3)}
	for range 5 {
		puts(t, c, []api.Stack{pile(1, 0, 1, 2)}, nil, at(1, 1), at(1, 0), api.OK)
	}
}

// P14.2: never a touched one; From may be touched.
func TestPlaceTouched(t *testing.T) {
	from := at(1, 1)
	var touched []api.Cell
	for _, want := range []api.Cell{at(1, 0), at(0, 1), at(2, 1), at(2, 0), at(2, 2), at(3, 0), at(4, 1), at(3, 2)} {
		puts(t, mixed(), nil, touched, from, want, api.OK)
		puts(t, mixed(), nil, append([]api.Cell{from, at(9, 9), at(0, 0), at(0, 0)}, touched...), from, want, api.OK)
		touched = append([]api.Cell{want}, touched...)
	}
	puts(t, mixed(), nil, touched, from, api.Cell{}, api.ErrRoom)
	// From anywhere else the cell itself is the last that is left.
	puts(t, mixed(), nil, touched, at(0, 0), from, api.OK)
	puts(t, mixed(), nil, stackCells(), at(0, 0), api.Cell{}, api.ErrRoom)
}

// P14.2: ErrConf ahead of ErrRoom; ErrRoom where there is no stack cell, none beside From, or none with room.
func TestPlaceErrors(t *testing.T) {
	for _, turn := range []func(c *api.Conf){
		func(c *api.Conf) { *c = api.Conf{} },
		func(c *api.Conf) { c.Height = 0 },
		func(c *api.Conf) { c.W = -1 },
		func(c *api.Conf) { c.Queue = 17 },
		func(c *api.Conf) { c.Stacks = []api.Stack{pile(1, 0, 1, 1)} },
	} {
		c := mixed()
		turn(&c)
		puts(t, c, nil, nil, at(1, 1), api.Cell{}, api.ErrConf)
		puts(t, c, nil, stackCells(), at(1, 1), api.Cell{}, api.ErrConf)
	}
	puts(t, bare(1, 1, 8), nil, nil, at(0, 0), api.Cell{}, api.ErrRoom)
	puts(t, bare(2, 1, 8), nil, nil, at(0, 0), api.Cell{}, api.ErrRoom)
	puts(t, bare(2, 1, 8), nil, nil, at(1, 0), at(0, 0), api.OK)
	var full []api.Stack
	for _, c := range stackCells() {
		full = append(full, api.Stack{At: c, Bins: []int{1, 2, 3}})
	}
	puts(t, mixed(), full, nil, at(1, 1), api.Cell{}, api.ErrRoom)
	full[8].Bins = full[8].Bins[:2]
	puts(t, mixed(), full, nil, at(1, 1), at(3, 2), api.OK)
	puts(t, mixed(), full, nil, at(3, 2), api.Cell{}, api.ErrRoom)
	puts(t, mixed(), full, []api.Cell{at(3, 2)}, at(1, 1), api.Cell{}, api.ErrRoom)
}

// P14.2: From may be no stack cell: a port, a home, a blocked cell, one that nobody can serve, or out of the grid.
func TestPlaceFromElsewhere(t *testing.T) {
	for _, x := range []struct{ from, want api.Cell }{
		{at(0, 0), at(1, 0)}, {at(4, 0), at(3, 0)}, {at(0, 2), at(0, 1)}, {at(1, 2), at(1, 1)}, {at(3, 1), at(3, 0)}, {at(4, 2), at(4, 1)},
		{at(-1, 1), at(0, 1)}, {at(-5, 9), at(0, 1)}, {at(2, -1), at(2, 0)}, {at(9, 9), at(4, 1)}, {at(2, 7), at(2, 2)}, {at(5, 1), at(4, 1)},
		{at(1<<40, 0), at(3, 0)}, {at(1<<40, 1), at(4, 1)}, {at(0, 1<<40), at(0, 1)}, {at(3, 1<<40), at(3, 2)}, {at(-1<<40, 1), at(0, 1)}, {at(1, -1<<40), at(1, 0)},
	} {
		puts(t, mixed(), nil, nil, x.from, x.want, api.OK)
	}
	// Where Away reckons no more all are alike.
	for _, v := range []int{1<<40 + 1, -1<<40 - 1, math.MaxInt, math.MinInt} {
		for _, from := range []api.Cell{at(v, 0), at(0, v), at(v, v), at(4, v), at(v, 2)} {
			puts(t, mixed(), nil, nil, from, at(1, 0), api.OK)
			puts(t, mixed(), nil, []api.Cell{at(1, 0)}, from, at(2, 0), api.OK)
		}
	}
}

// P14.2: the place is that of the chapter's words done plainly, from each cell in the grid and around it.
func TestPlaceByTheWords(t *testing.T) {
	var luck chance = 5
	count := map[bool]int{}
	for range 3000 {
		q := drawWild(&luck)
		for y := -2; y < q.c.H+2; y++ {
			for x := -2; x < q.c.W+2; x++ {
				want, ok := plainPlace(q.c, q.stacks, q.touched, at(x, y), nil)
				count[ok]++
				e := api.OK
				if !ok {
					want, e = api.Cell{}, api.ErrRoom
				}
				puts(t, q.c, q.stacks, q.touched, at(x, y), want, e)
			}
		}
	}
	if count[true] < 10000 || count[false] < 1000 {
		t.Errorf("%v", count)
	}
}

// P14.1, P14.2: the first Away leads to what Place tells, in the same stacks.
func TestFirstAwayIsPlace(t *testing.T) {
	var luck chance = 7
	seen := 0
	for range 3000 {
		q := drawTame(&luck, 6)
		l, e := q.jobs()
		if e != api.OK || l[0].Kind != api.Away {
			continue
		}
		seen++
		puts(t, q.c, q.stacks, q.touched, l[0].From, l[0].To, api.OK)
		if slices.Contains(q.touched, l[0].To) || l[0].To == l[0].From {
			t.Fatal(q, l)
		}
	}
	if seen < 500 {
		t.Errorf("%d seen", seen)
	}
}
