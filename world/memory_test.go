package world_test

import (
	"reflect"
	"slices"
	"testing"

	"skep/api"
	"skep/world"
)

// spare is the same list in new memory, with spare room.
func spare[T any](l []T) []T {
	return append(make([]T, 0, len(l)+8), l...)
}

// deep is a config with the same in lists of its own, each with spare room.
func deep(c api.Conf) api.Conf {
	c.Blocked, c.Ports, c.Robots, c.Stacks = spare(c.Blocked), spare(c.Ports), spare(c.Robots), spare(c.Stacks)
	for i, s := range c.Stacks {
		c.Stacks[i].Bins = spare(s.Bins)
	}
	return c
}

// whole is a config with its lists' spare room laid open.
func whole(c api.Conf) api.Conf {
	c.Blocked = c.Blocked[:cap(c.Blocked)]
	c.Ports = c.Ports[:cap(c.Ports)]
	c.Robots = c.Robots[:cap(c.Robots)]
	c.Stacks = slices.Clone(c.Stacks[:cap(c.Stacks)])
	for i, s := range c.Stacks {
		c.Stacks[i].Bins = s.Bins[:cap(s.Bins)]
	}
	return c
}

// spoil writes over a list and its spare room.
func spoil[T any](l []T, v T) {
	l = l[:cap(l)]
	for i := range l {
		l[i] = v
	}
}

// R3: a config stays as it is, spare room included, whether it may be or not, and whatever happens in the world.
func TestConfStays(t *testing.T) {
	wrong := yard()
	wrong.Stacks = append(wrong.Stacks, api.Stack{At: at(4, 4), Bins: []int{6, 7}})
	var luck chance = 3
	for _, c := range append(confs(), wrong) {
		given, kept := deep(c), whole(deep(c))
		if w, e := world.New(given); e == api.OK && len(c.Robots) > 0 {
			for _, x := range drawn(&luck, c, 400) {
				do(w, x)
			}
		}
		if !reflect.DeepEqual(whole(given), kept) {
			t.Errorf("%+v, want %+v", whole(given), kept)
		}
	}
}

// R3: a config that is turned behind New turns no world.
func TestConfIsNotKept(t *testing.T) {
	var luck chance = 4
	for _, c := range []api.Conf{tight(), yard()} {
		for range 20 {
			given := deep(c)
			w, m := made(t, given), modelOf(c)
			for _, s := range given.Stacks {
				spoil(s.Bins, 77)
			}
			spoil(given.Stacks, api.Stack{At: at(1, 1), Bins: []int{90}})
			spoil(given.Robots, down(3, 1))
			spoil(given.Ports, at(1, 0))
			spoil(given.Blocked, at(1, 0))
			same(t, w, m)
			for range 80 {
				both(t, w, m, drawCall(&luck, m))
			}
		}
	}
}

// R3: what is answered is new memory, spare room too: to write into it turns nothing of the world, nor of what else is answered.
func TestAnswersAreNewMemory(t *testing.T) {
	var luck chance = 5
	c := tight()
	for range 30 {
		w, m := made(t, c), modelOf(c)
		for range 80 {
			sights, all := w.Sights(), w.Bins()
			kept, whole := slices.Clone(sights), slices.Clone(all)
			spoil(w.Sights(), api.Sight{Kind: 99})
			spoil(w.Bins(), -77)
			for _, cell := range around(c) {
				spoil(w.At(cell), -77)
			}
			spoil(both(t, w, m, drawCall(&luck, m)).teles, api.Tele{Kind: 99})
			same(t, w, m)
			if !slices.Equal(sights, kept) || !slices.Equal(all, whole) {
				t.Fatalf("%+v, were %+v; %v, were %v", sights, kept, all, whole)
			}
		}
	}
}

// R3: sights that were told stay as they were when more come, and leave their spare room alone.
func TestToldSightsStay(t *testing.T) {
	w := made(t, yard())
	for i := range 20 {
		w.Hear(stops(0, i+1))
		told := w.Sights()
		_ = append(told, api.Sight{Kind: 99})
		w.Hear(stops(1, i+1))
		_ = append(told, api.Sight{Kind: 98})
		if l := w.Sights(); len(l) != 2*i+2 || l[2*i+1] != (api.Sight{Kind: api.SeHalt, Robot: 1, Pose: to(1, 4)}) {
			t.Fatalf("%+v", l)
		}
		if len(told) != 2*i+1 || told[2*i] != (api.Sight{Kind: api.SeHalt, Pose: to(0, 1)}) {
			t.Fatalf("%+v", told)
		}
	}
}

// R3: telegrams that were told are no longer the world's, and no two answers share any.
func TestToldTelegramsStay(t *testing.T) {
	w := made(t, yard())
	var lists [][]api.Tele
	for i, p := range yard().Robots {
		lists = append(lists, w.Hear(stops(i, 1)))
		w.Hear(goes(i, 1, 1, lifts(p, 2)))
	}
	w.Tick()
	lists = append(lists, w.Tick(), w.Hear(goes(0, 1, 1, lifts(to(0, 1), 2))))
	for i, l := range lists {
		spoil(l, api.Tele{Kind: 90 + i})
	}
	for i, l := range lists {
		if len(l) == 0 || slices.ContainsFunc(l[:cap(l)], func(x api.Tele) bool { return x.Kind != 90+i }) {
			t.Errorf("list %d: %+v", i, l)
		}
	}
	if got := w.Hear(goes(2, 1, 1, lifts(down(5, 1), 2))); !slices.Equal(got, []api.Tele{acks(2, 1, 1)}) {
		t.Errorf("%+v", got)
	}
}

// R4: two worlds of one config have nothing in common.
func TestNothingInCommon(t *testing.T) {
	var luck chance = 6
	given := deep(tight())
	w, other, m := made(t, given), made(t, given), modelOf(tight())
	for range 300 {
		both(t, w, m, drawCall(&luck, m))
	}
	same(t, other, modelOf(tight()))
}
