package link_test

import (
	"slices"
	"testing"

	"skep/api"
)

// spoil writes over a list and its spare room.
func spoil(l []api.Tele) {
	l = l[:cap(l)]
	for i := range l {
		l[i] = api.Tele{Kind: 99, Robot: -7}
	}
}

// R3: what Due tells is memory of its own: to write into it changes nothing of the link, nor of what else is told.
func TestDueIsNewMemory(t *testing.T) {
	l := made(t, 5, 10)
	var all []api.Tele
	for robot := range 5 {
		all = append(all, goes(robot, 1))
		sends(t, l, goes(robot, 1), 0)
	}
	kept := l.Due(10)
	for now := 20; now < 100; now += 10 {
		d := l.Due(now)
		if !slices.Equal(d, all) {
			t.Fatalf("Due at %d: %+v", now, d)
		}
		spoil(d)
		for robot := range 5 {
			waits(t, l, robot, goes(robot, 1))
		}
	}
	if !slices.Equal(kept, all) {
		t.Error(kept)
	}
}

// R3: what was told stays as it was, whatever is sent, got and cleared behind it.
func TestToldStays(t *testing.T) {
	l := made(t, 2, 10)
	sends(t, l, goes(0, 1), 0)
	sends(t, l, goes(1, 1), 0)
	kept := l.Due(10)
	sends(t, l, stops(0, 1), 11)
	gets(t, l, 1, true)
	tells(t, l, 21, stops(0, 1))
	l.Clear()
	if !slices.Equal(kept, []api.Tele{goes(0, 1), goes(1, 1)}) {
		t.Error(kept)
	}
}

// R4: two links have nothing in common.
func TestNothingInCommon(t *testing.T) {
	var luck chance = 13
	for range 100 {
		x, r := made(t, 3, 2), &record{robots: 3, resend: 2}
		y, q := made(t, 3, 3), &record{robots: 3, resend: 3}
		for now := range 40 {
			both(t, x, r, drawCall(&luck, 3, now))
			both(t, y, q, drawCall(&luck, 3, now))
		}
	}
}

// R4: what is told hangs on the calls alone: the same script tells the same, over and over.
func TestSameScriptTellsSame(t *testing.T) {
	var one, other chance = 19, 19
	for range 100 {
		x, y := made(t, 8, 2), made(t, 8, 2)
		for now := range 40 {
			a, b := do(x, drawCall(&one, 8, now)), do(y, drawCall(&other, 8, now))
			if a.tele != b.tele || a.e != b.e || a.ok != b.ok || !slices.Equal(a.due, b.due) {
				t.Fatalf("%+v, %+v", a, b)
			}
		}
	}
}
