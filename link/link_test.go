package link_test

import (
	"math"
	"testing"

	"skep/api"
	"skep/link"
)

// P17.1: New of 0 to MaxRobots robots, and of a resend from 1 on, however great; nil and ErrArg otherwise.
func TestNew(t *testing.T) {
	robots := append(ends(), -2, -1, 0, 1, 2, api.MaxRobots-1, api.MaxRobots, api.MaxRobots+1, api.MaxRobots+2)
	resends := append(ends(), -7, -1, 0, 1, 2, 10, api.MaxTicks, end-1)
	for _, n := range robots {
		for _, resend := range resends {
			want := api.OK
			if n < 0 || n > 8 || resend < 1 {
				want = api.ErrArg
			}
			l, e := link.New(n, resend)
			if e != want || (l != nil) != (want == api.OK) {
				t.Errorf("New %d, %d: %v, error %d, want %d", n, resend, l, e, want)
			}
		}
	}
}

// P17.1: nothing waits at a new one, of however many robots.
func TestNewIsEmpty(t *testing.T) {
	for n := range api.MaxRobots + 1 {
		l := made(t, n, 1)
		for robot := -1; robot <= n; robot++ {
			idle(t, l, robot)
			gets(t, l, robot, false)
		}
		tells(t, l, end)
		l.Clear()
		tells(t, l, end)
	}
}

// P17.1: Send to each robot that there is, and to no other; with 0 robots there is none.
func TestSendRobots(t *testing.T) {
	for n := range api.MaxRobots + 1 {
		l := made(t, n, 10)
		for _, robot := range append(ends(), -2, -1, n, n+1, api.MaxRobots, api.MaxRobots+1) {
			if robot >= 0 && robot < n {
				continue
			}
			refuses(t, l, goes(robot, 1), 5)
			refuses(t, l, stops(robot, 1), 5)
			idle(t, l, robot)
		}
		tells(t, l, end)
		for robot := range n {
			sends(t, l, goes(robot, 1), 5)
			waits(t, l, robot, goes(robot, 1))
			sends(t, l, stops(robot, 1), 5)
			waits(t, l, robot, stops(robot, 1))
		}
		idle(t, l, -1, n, n+1)
	}
}

// P17.1: TeGo and TeStop alone are taken.
func TestSendKinds(t *testing.T) {
	for _, kind := range append(ends(), -2, -1, 0, api.TeGo, api.TeStop, api.TeAck, api.TeHalt, 5, 6) {
		l := made(t, 2, 10)
		x := goes(1, 3)
		x.Kind = kind
		if kind == 1 || kind == 2 {
			sends(t, l, x, 5)
			waits(t, l, 1, x)
		} else {
			refuses(t, l, x, 5)
			idle(t, l, 0, 1)
			tells(t, l, end)
		}
	}
	refuses(t, made(t, 1, 1), api.Tele{}, 0)
}

// R5: what else is in a telegram may be any, and comes back as it is.
func TestSendWhatever(t *testing.T) {
	for _, v := range append(ends(), -1, 0, 1) {
		for _, kind := range []int{api.TeGo, api.TeStop} {
			at := api.Pose{At: api.Cell{X: v, Y: v}, Down: true}
			x := api.Tele{Kind: kind, Robot: 1, Epoch: v, Num: v, Move: api.Move{Kind: v, Dir: v, N: v, From: at, To: at, At: v, End: v}, Pose: at, Load: v}
			l := made(t, 2, 10)
			sends(t, l, x, 5)
			waits(t, l, 1, x)
			tells(t, l, 15, x)
			waits(t, l, 1, x)
		}
	}
}

// P17.1: at whatever tick it is sent, it waits.
func TestSendWhenever(t *testing.T) {
	for _, now := range append(ends(), -1, 0, 1, end-1) {
		l := made(t, 2, 10)
		sends(t, l, goes(0, 1), now)
		waits(t, l, 0, goes(0, 1))
		refuses(t, l, goes(2, 1), now)
	}
}

// P17.1: what is sent takes the place of what waited for that robot, and of nothing else, whatever its kind.
func TestSendTakesThePlace(t *testing.T) {
	for _, second := range []api.Tele{goes(1, 2), goes(1, 1), stops(1, 9)} {
		l := made(t, 3, 10)
		sends(t, l, goes(0, 1), 5)
		sends(t, l, stops(1, 1), 5)
		sends(t, l, goes(2, 1), 5)
		sends(t, l, second, 6)
		waits(t, l, 0, goes(0, 1))
		waits(t, l, 1, second)
		waits(t, l, 2, goes(2, 1))
		tells(t, l, 15, goes(0, 1), goes(2, 1))
		tells(t, l, 16, second)
		// There is but one: got, nothing is behind it.
		gets(t, l, 1, true)
		idle(t, l, 1)
		gets(t, l, 1, false)
	}
}

// R2: a telegram that is refused leaves what waits, and when it is due.
func TestRefusedSendTurnsNothing(t *testing.T) {
	for _, kind := range []int{-1, 0, api.TeAck, api.TeHalt, 5, math.MaxInt} {
		l := made(t, 2, 10)
		sends(t, l, goes(0, 1), 5)
		sends(t, l, stops(1, 1), 7)
		refuses(t, l, api.Tele{Kind: kind}, 9)
		refuses(t, l, api.Tele{Kind: kind, Robot: 1}, 9)
		refuses(t, l, goes(2, 1), 9)
		refuses(t, l, stops(-1, 1), 9)
		waits(t, l, 0, goes(0, 1))
		waits(t, l, 1, stops(1, 1))
		idle(t, l, -1, 2)
		tells(t, l, 14)
		tells(t, l, 15, goes(0, 1))
		tells(t, l, 17, stops(1, 1))
	}
}

// P17.1: Got is true where something waits, and takes it; twice, where nothing does, and of a robot that there is not, it is false and takes nothing.
func TestGot(t *testing.T) {
	for n := 1; n <= api.MaxRobots; n++ {
		for robot := range n {
			l := made(t, n, 10)
			gets(t, l, robot, false)
			for other := range n {
				sends(t, l, goes(other, 1), 5)
			}
			for _, none := range append(ends(), -2, -1, n, n+1, api.MaxRobots) {
				gets(t, l, none, false)
			}
			gets(t, l, robot, true)
			gets(t, l, robot, false)
			for other := range n {
				if other == robot {
					idle(t, l, other)
				} else {
					waits(t, l, other, goes(other, 1))
				}
			}
			if got := l.Due(15); len(got) != n-1 {
				t.Errorf("Due behind Got of %d: %+v", robot, got)
			}
		}
	}
}

// P17.1: what was got can be sent anew, and is due by the new tick.
func TestGotAndSentAnew(t *testing.T) {
	l := made(t, 1, 10)
	sends(t, l, goes(0, 1), 5)
	gets(t, l, 0, true)
	sends(t, l, goes(0, 1), 12)
	waits(t, l, 0, goes(0, 1))
	tells(t, l, 21)
	tells(t, l, 22, goes(0, 1))
	gets(t, l, 0, true)
	gets(t, l, 0, false)
}

// P17.1: Waits tells what waits, as often as it is asked, and turns nothing; nothing where nothing does, and of a robot that there is not.
func TestWaits(t *testing.T) {
	l := made(t, 3, 10)
	sends(t, l, stops(1, 2), 5)
	for range 3 {
		waits(t, l, 1, stops(1, 2))
		idle(t, l, 0, 2)
		idle(t, l, append(ends(), -2, -1, 3, 4, api.MaxRobots)...)
	}
	tells(t, l, 14)
	waits(t, l, 1, stops(1, 2))
	tells(t, l, 15, stops(1, 2))
	waits(t, l, 1, stops(1, 2))
	gets(t, l, 1, true)
	idle(t, l, 0, 1, 2)
}

// P17.1: behind Clear nothing waits, of nobody; it can be sent anew, and robots and resend are as they were.
func TestClear(t *testing.T) {
	for n := 1; n <= api.MaxRobots; n++ {
		l := made(t, n, 10)
		for robot := range n {
			sends(t, l, goes(robot, 1), 5)
		}
		l.Clear()
		for robot := range n {
			idle(t, l, robot)
			gets(t, l, robot, false)
		}
		tells(t, l, 15)
		tells(t, l, end)
		l.Clear()
		refuses(t, l, stops(n, 1), 20)
		sends(t, l, stops(n-1, 1), 20)
		waits(t, l, n-1, stops(n-1, 1))
		tells(t, l, 29)
		tells(t, l, 30, stops(n-1, 1))
	}
}
