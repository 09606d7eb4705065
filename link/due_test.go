package link_test

import (
	"math"
	"testing"

	"skep/api"
)

// The chapter's example: New(1, 10); Send(go, 5): Due(14): none; Due(15): go; Due(20): none.
func TestExample(t *testing.T) {
	l := made(t, 1, 10)
	sends(t, l, goes(0, 1), 5)
	tells(t, l, 14)
	tells(t, l, 15, goes(0, 1))
	tells(t, l, 20)
}

// P17.2: one tick ahead of its time nothing is due, at it and behind it the telegram is.
func TestDueAtItsTime(t *testing.T) {
	for _, resend := range []int{1, 2, 3, 10, api.MaxTicks, end - 7} {
		for _, sent := range []int{0, 1, 5} {
			for _, late := range []int{-1, 0, 1} {
				l := made(t, 1, resend)
				sends(t, l, stops(0, 1), sent)
				tells(t, l, sent)
				if late < 0 {
					tells(t, l, sent+resend+late)
				} else {
					tells(t, l, sent+resend+late, stops(0, 1))
				}
				waits(t, l, 0, stops(0, 1))
			}
		}
	}
}

// P17.2: what was told is sent again at now, not at the tick at which it was due.
func TestDueSendsAgainAtNow(t *testing.T) {
	l := made(t, 1, 10)
	sends(t, l, goes(0, 1), 5)
	tells(t, l, 18, goes(0, 1))
	tells(t, l, 18)
	tells(t, l, 25)
	tells(t, l, 27)
	tells(t, l, 28, goes(0, 1))
	tells(t, l, 1000, goes(0, 1))
	tells(t, l, 1009)
	tells(t, l, 1010, goes(0, 1))
}

// P17.2: what was asked for in vain is not sent again: the tick stays the one of sending.
func TestDueInVain(t *testing.T) {
	l := made(t, 1, 10)
	sends(t, l, goes(0, 1), 5)
	for now := 5; now < 15; now++ {
		tells(t, l, now)
	}
	tells(t, l, 15, goes(0, 1))
}

// P17.2: several, by robots, however they were sent; each by its own tick.
func TestDueByRobots(t *testing.T) {
	orders := [][]int{{0, 1, 2, 3, 4, 5, 6, 7}, {7, 6, 5, 4, 3, 2, 1, 0}, {3, 7, 0, 5, 1, 6, 4, 2}}
	for _, order := range orders {
		l := made(t, api.MaxRobots, 10)
		var all, odd, even []api.Tele
		for _, robot := range order {
			sends(t, l, goes(robot, robot), 5)
		}
		for robot := range api.MaxRobots {
			all = append(all, goes(robot, robot))
			if robot%2 == 0 {
				even = append(even, stops(robot, 1))
			} else {
				odd = append(odd, goes(robot, robot))
			}
		}
		tells(t, l, 14)
		tells(t, l, 15, all...)
		for _, robot := range order {
			if robot%2 == 0 {
				sends(t, l, stops(robot, 1), 20)
			}
		}
		tells(t, l, 25, odd...)
		tells(t, l, 30, even...)
		tells(t, l, 34)
		tells(t, l, 35, odd...)
		gets(t, l, 6, true)
		tells(t, l, 40, even[:3]...)
		tells(t, l, 49, odd...)
		tells(t, l, 59, even[0], odd[0], even[1], odd[1], even[2], odd[2], odd[3])
	}
}

// P17.2: behind another telegram for the same robot, it is the new one's tick that counts, be it ahead of the old one's.
func TestDueByTheLastSend(t *testing.T) {
	l := made(t, 1, 10)
	sends(t, l, goes(0, 1), 5)
	sends(t, l, goes(0, 2), 14)
	tells(t, l, 15)
	tells(t, l, 23)
	tells(t, l, 24, goes(0, 2))
	sends(t, l, goes(0, 3), 10)
	tells(t, l, 20, goes(0, 3))
	// Alike, but sent anew.
	sends(t, l, goes(0, 3), 25)
	tells(t, l, 30)
	tells(t, l, 35, goes(0, 3))
}

// P17.2: a now ahead of the tick of sending: nothing is due, and nothing is turned.
func TestDueAheadOfSending(t *testing.T) {
	l := made(t, 1, 1)
	sends(t, l, goes(0, 1), 50)
	for _, now := range []int{math.MinInt, -end, -51, -1, 0, 1, 48, 49, 50} {
		tells(t, l, now)
	}
	tells(t, l, 51, goes(0, 1))
	tells(t, l, 40)
	tells(t, l, 51)
	tells(t, l, 52, goes(0, 1))
}

// P17.2, by tick's Less: a tick below 0 is 0.
func TestDueBelowZero(t *testing.T) {
	for _, sent := range []int{math.MinInt, -end - 1, -end, -11, -10, -1, 0} {
		l := made(t, 1, 10)
		sends(t, l, stops(0, 3), sent)
		for _, now := range []int{math.MinInt, -end, -1, 0, 1, 9} {
			tells(t, l, now)
		}
		tells(t, l, 10, stops(0, 3))
		tells(t, l, 19)
		tells(t, l, 20, stops(0, 3))
	}
}

// P17.2, by tick's Less: at Forever and beyond all that waits is due, whenever it was sent; ahead of it nothing that was sent then.
func TestDueAtForever(t *testing.T) {
	for _, resend := range []int{1, 10, end - 1, end} {
		for _, sent := range []int{math.MinInt, 0, 5, end - 1, end, end + 1, math.MaxInt} {
			for _, now := range []int{end, end + 1, math.MaxInt} {
				l := made(t, 2, resend)
				sends(t, l, goes(1, 1), sent)
				tells(t, l, now, goes(1, 1))
				tells(t, l, now, goes(1, 1))
				tells(t, l, end-1)
				tells(t, l, end, goes(1, 1))
				gets(t, l, 1, true)
				tells(t, l, now)
			}
		}
	}
}

// P17.2: near Forever, but ahead of it, ticks count as ever.
func TestDueNearForever(t *testing.T) {
	l := made(t, 1, 10)
	sends(t, l, goes(0, 1), end-30)
	tells(t, l, end-21)
	tells(t, l, end-20, goes(0, 1))
	tells(t, l, end-11)
	tells(t, l, end-1, goes(0, 1))
	tells(t, l, end-1)
	l = made(t, 1, end-1)
	sends(t, l, goes(0, 1), 0)
	tells(t, l, end-2)
	tells(t, l, end-1, goes(0, 1))
	l = made(t, 1, end-1)
	sends(t, l, goes(0, 1), 1)
	tells(t, l, end-1)
}

// P17.2: a resend that is greater than any number of ticks: it is never due, and waits on.
func TestDueNever(t *testing.T) {
	for _, resend := range []int{end + 1, math.MaxInt - 1, math.MaxInt} {
		l := made(t, 1, resend)
		sends(t, l, goes(0, 1), math.MinInt)
		for _, now := range append(ends(), 0, 1, end-1) {
			tells(t, l, now)
		}
		waits(t, l, 0, goes(0, 1))
		gets(t, l, 0, true)
	}
	l := made(t, 1, end)
	sends(t, l, goes(0, 1), 0)
	tells(t, l, end-1)
}

// P17.2: with no robots nothing is ever due.
func TestDueOfNobody(t *testing.T) {
	l := made(t, 0, 1)
	for _, now := range append(ends(), 0, 1, 10) {
		refuses(t, l, goes(0, 1), 0)
		tells(t, l, now)
	}
}
