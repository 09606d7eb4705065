package stacks_test

import (
	"reflect"
	"slices"
	"testing"

	"skep/api"
	"skep/stacks"
)

// spare is the same list in new memory, with spare room.
func spare[T any](l []T) []T {
	return append(make([]T, 0, len(l)+8), l...)
}

// deep is a config with the same in lists of its own, each with spare room.
func deep(c api.Conf) api.Conf {
	c.Blocked, c.Ports, c.Robots, c.Stacks = spare(c.Blocked), spare(c.Ports), spare(c.Robots), spare(c.Stacks)
	for i, s := range c.Stacks {
		c.Stacks[i].Bins = spare(s.Bins)
	}
	return c
}

// whole is a config with its lists' spare room laid open.
func whole(c api.Conf) api.Conf {
	c.Blocked = c.Blocked[:cap(c.Blocked)]
	c.Ports = c.Ports[:cap(c.Ports)]
	c.Robots = c.Robots[:cap(c.Robots)]
	c.Stacks = slices.Clone(c.Stacks[:cap(c.Stacks)])
	for i, s := range c.Stacks {
		c.Stacks[i].Bins = s.Bins[:cap(s.Bins)]
	}
	return c
}

// spoil writes over a list and its spare room.
func spoil(l []int) {
	l = l[:cap(l)]
	for i := range l {
		l[i] = -77
	}
}

// churn lifts and drops a lot, and so that each cell's bins are others than they were.
func churn(s *stacks.Stacks, c api.Conf) {
	for _, from := range inGrid(c) {
		for _, to := range inGrid(c) {
			if _, e := s.Lift(0, from); e == api.OK && s.Drop(0, to) != api.OK {
				s.Drop(0, from)
			}
		}
	}
}

// R3: a config stays as it is, spare room included, whether it may be or not, and whatever is lifted and dropped.
func TestConfStays(t *testing.T) {
	wrong := busy()
	wrong.Stacks = append(wrong.Stacks, api.Stack{At: at(2, 2), Bins: []int{9, 6, 7}})
	for _, c := range []api.Conf{busy(), wrong, full()} {
		given, kept := deep(c), whole(deep(c))
		if s, e := stacks.New(given); e == api.OK {
			churn(s, c)
		}
		if !reflect.DeepEqual(whole(given), kept) {
			t.Errorf("%+v, want %+v", whole(given), kept)
		}
	}
}

// R3: a config that is turned behind New turns no stacks.
func TestConfIsNotKept(t *testing.T) {
	given := deep(busy())
	s, m := made(t, given), modelOf(busy())
	for _, l := range given.Stacks {
		spoil(l.Bins)
	}
	for i := range given.Stacks {
		given.Stacks[i] = api.Stack{At: at(i, 2), Bins: []int{90 + i}}
	}
	for i := range given.Blocked {
		given.Blocked[i] = at(2, 2+i)
	}
	for i := range given.Ports {
		given.Ports[i] = at(3, i)
	}
	for i := range given.Robots {
		given.Robots[i] = to(2, 2+i)
	}
	same(t, s, m)
	lifts(t, s, 0, at(3, 0), 8, api.OK)
	drops(t, s, 0, at(0, 4), api.OK)
	m.lift(0, at(3, 0))
	m.drop(0, at(0, 4))
	same(t, s, m)
}

// R3: what is told is new memory: to write into it changes nothing of the stacks, nor of what else is told.
func TestToldIsNewMemory(t *testing.T) {
	s, m := loaded(t)
	kept := collect(s, 99)
	bins := s.Bins()
	for _, c := range around(busy()) {
		spoil(s.At(c))
	}
	for range 2 {
		for _, l := range s.All() {
			spoil(l)
		}
	}
	spoil(s.Bins())
	same(t, s, m)
	if got := collect(s, 99); !slices.EqualFunc(got, kept, sameTold) || !slices.Equal(bins, m.bins) {
		t.Errorf("%v, %v", kept, bins)
	}
	// A bin that comes behind a spoilt one must not stand in memory that was told.
	told := s.At(at(3, 0))
	_ = append(told, -1)
	drops(t, s, 1, at(3, 0), api.OK)
	m.drop(1, at(3, 0))
	_ = append(told, -2)
	same(t, s, m)
}

// R3: no two lists that All tells share memory, spare room too.
func TestAllSharesNothing(t *testing.T) {
	s := made(t, full())
	all := collect(s, 999)
	for i := range all {
		spoil(all[i].bins)
		all[i].bins = nil
		for _, x := range all[i+1:] {
			if slices.Contains(x.bins[:cap(x.bins)], -77) {
				t.Fatalf("%v shares memory with %v", x.c, all[i].c)
			}
		}
	}
	same(t, s, modelOf(full()))
}

// R3: what was told stays as it was, whatever is lifted and dropped behind it.
func TestToldStays(t *testing.T) {
	s, m := loaded(t)
	var lists [][]int
	for _, c := range inGrid(busy()) {
		lists = append(lists, s.At(c))
	}
	all, bins := collect(s, 99), s.Bins()
	churn(s, busy())
	if slices.EqualFunc(collect(s, 99), all, sameTold) {
		t.Fatal("nothing was turned")
	}
	for i, c := range inGrid(busy()) {
		if !slices.Equal(lists[i], m.stand[c]) {
			t.Errorf("At %v: %v, want %v", c, lists[i], m.stand[c])
		}
	}
	for _, x := range all {
		if !slices.Equal(x.bins, m.stand[x.c]) {
			t.Errorf("All: %v at %v, want %v", x.bins, x.c, m.stand[x.c])
		}
	}
	if !slices.Equal(bins, m.bins) {
		t.Errorf("Bins: %v", bins)
	}
}

// R4: two stacks of one config have nothing in common.
func TestNothingInCommon(t *testing.T) {
	given := deep(busy())
	s, other := made(t, given), made(t, given)
	lifts(t, s, 1, at(0, 2), 5, api.OK)
	churn(s, busy())
	same(t, other, modelOf(busy()))
}
