package play_test

import (
	"reflect"
	"slices"
	"testing"

	"skep/api"
	"skep/play"
)

// drawn is a script for a config, drawn by what is there as it is done, and what a run answered to it.
func drawn(luck *chance, c api.Conf, r *play.Run, n int) ([]api.Op, []api.Errno) {
	var l []api.Op
	var out []api.Errno
	for range n {
		o := drawOp(luck, c, r)
		l, out = append(l, o), append(out, r.Do(o))
	}
	return l, out
}

// P22.3: Play: New, and Do of each operation; what each answered, one by one.
func TestPlay(t *testing.T) {
	var luck chance = 14
	for range 40 {
		c := drawConf(&luck)
		r := made(t, c)
		l, want := drawn(&luck, c, r, 250)
		p, got, e := play.Play(c, l)
		if e != api.OK || !slices.Equal(got, want) {
			t.Fatalf("error %d, answers\n%v\nwant\n%v", e, got, want)
		}
		stays(t, c, p, wholeOf(c, r))
	}
}

// P22.3: scripts whose answers are written out; none of them ends a script.
func TestPlayWrittenOut(t *testing.T) {
	l := []api.Op{opHear(0, 0), opHear(0, 2), opLose(0), opDelay(5, 1), opDelay(0, 1), opOrder(7, 0), opOrder(7, 0), opTick(), opHear(0, 1), opHear(0, 0), opStop(), opOrder(8, 0), opCrash(0, 0), opCheck(), {Kind: 99}, opTick()}
	want := []api.Errno{api.ErrNone, api.ErrArg, api.ErrNone, api.ErrArg, api.OK, api.OK, api.ErrDouble, api.OK, api.OK, api.OK, api.OK, api.ErrHeld, api.OK, api.OK, api.ErrOp, api.OK}
	r, got, e := play.Play(small(), l)
	if e != api.OK || !slices.Equal(got, want) {
		t.Fatalf("error %d, answers %v, want %v", e, got, want)
	}
	if s := r.State(); s.Epoch != 2 || !s.Held || r.World().Now() != 2 {
		t.Errorf("%+v, at %d", s, r.World().Now())
	}
}

// P22.3: a script of no operations is a new run, and answers nothing.
func TestPlayOfNothing(t *testing.T) {
	for _, l := range [][]api.Op{nil, {}} {
		r, got, e := play.Play(yard(), l)
		if e != api.OK || len(got) != 0 {
			t.Fatalf("error %d, %v", e, got)
		}
		stays(t, yard(), r, wholeOf(yard(), made(t, yard())))
	}
}

// P22.3: the example: OpHear in an empty radio: ErrNone.
func TestExample(t *testing.T) {
	if _, l, e := play.Play(yard(), []api.Op{opHear(0, 0)}); e != api.OK || !slices.Equal(l, []api.Errno{api.ErrNone}) {
		t.Errorf("error %d, %v", e, l)
	}
}

// P22.4: the same script is the same run, behind each operation of it: answers, state, world, radio, disk and what was told; whatever is asked in between, and whatever another run does beside it.
func TestSameAgain(t *testing.T) {
	var luck chance = 15
	for range 12 {
		c := drawConf(&luck)
		l, want := drawn(&luck, c, made(t, c), 200)
		a, b, other := made(t, c), made(t, c), made(t, c)
		for i, o := range l {
			if e, f := a.Do(o), b.Do(o); e != f || e != want[i] {
				t.Fatalf("operation %d, %+v: error %d, %d, want %d", i, o, e, f, want[i])
			}
			other.Do(drawOp(&luck, c, other))
			if x, y := wholeOf(c, a), wholeOf(c, b); !reflect.DeepEqual(x, y) {
				t.Fatalf("operation %d, %+v:\n%+v\nand\n%+v", i, o, x, y)
			}
		}
		alone, _, _ := play.Play(c, l)
		stays(t, c, alone, wholeOf(c, a))
	}
}

// P22.4: a script's beginning is the beginning of the run.
func TestBeginnings(t *testing.T) {
	var luck chance = 16
	c := yard()
	l, want := drawn(&luck, c, made(t, c), 120)
	r := made(t, c)
	for n, o := range l {
		p, got, e := play.Play(c, l[:n])
		if e != api.OK || !slices.Equal(got, want[:n]) {
			t.Fatalf("error %d, answers %v, want %v", e, got, want[:n])
		}
		stays(t, c, p, wholeOf(c, r))
		r.Do(o)
	}
}

// P22.4: what is refused by radio and world, with no error of the hive's, is as if it had not been in the script.
func TestRefusedIsNothing(t *testing.T) {
	var luck chance = 17
	for range 10 {
		c := drawConf(&luck)
		a := made(t, c)
		l, got := drawn(&luck, c, a, 200)
		var taken []api.Op
		for i, o := range l {
			if got[i] == api.OK {
				taken = append(taken, o)
			}
		}
		b, e, _ := play.Play(c, taken)
		if slices.ContainsFunc(e, func(e api.Errno) bool { return e != api.OK }) || len(taken) == len(l) {
			t.Fatalf("%v", e)
		}
		stays(t, c, b, wholeOf(c, a))
	}
}
