package link_test

import (
	"testing"

	"skep/api"
)

// P17.3: asked at each tick, what waits is told just once in resend ticks, until it is got, then never.
func TestToldOverAndOver(t *testing.T) {
	for resend := 1; resend <= 7; resend++ {
		for sent := range 3 {
			for taken := sent; taken < sent+40; taken += 3 {
				l := made(t, 2, resend)
				sends(t, l, goes(1, 1), sent)
				for now := sent; now < taken; now++ {
					if now > sent && (now-sent)%resend == 0 {
						tells(t, l, now, goes(1, 1))
					} else {
						tells(t, l, now)
					}
				}
				gets(t, l, 1, true)
				for now := taken; now < taken+30; now++ {
					tells(t, l, now)
				}
				tells(t, l, end)
			}
		}
	}
}

// drawTele is any telegram; seldom one that is refused.
func drawTele(luck *chance, robots int) api.Tele {
	x := goes(luck.below(max(robots, 1)), luck.below(4))
	if luck.below(3) == 0 {
		x = stops(x.Robot, luck.below(4))
	}
	switch luck.below(24) {
	case 0:
		x.Robot = -1
	case 1:
		x.Robot = robots
	case 2:
		x.Kind = []int{-1, 0, api.TeAck, api.TeHalt, 5}[luck.below(5)]
	}
	return x
}

// drawCall is any call at a tick; most of them ask for what is due.
func drawCall(luck *chance, robots, now int) call {
	c := call{kind: due, robot: luck.below(robots+2) - 1, now: now}
	switch n := luck.below(20); {
	case n < 6:
		c.kind, c.tele = send, drawTele(luck, robots)
	case n < 9:
		c.kind = get
	case n < 10:
		c.kind = ask
	case n < 11 && luck.below(4) == 0:
		c.kind = wipe
	}
	return c
}

// sight is what is seen of a robot's telegrams from outside: what was sent last, when it was sent or told last, whether it was neither got nor cleared since.
type sight struct {
	tele api.Tele
	at   int
	open bool
}

// watch fails if what a call answers is not what P17.3 says, and goes on to what is seen behind it.
func watch(t *testing.T, seen []sight, resend int, c call, a answer) {
	t.Helper()
	switch {
	case c.kind == send && a.e == api.OK:
		seen[c.tele.Robot] = sight{c.tele, c.now, true}
	case c.kind == get && a.ok:
		seen[c.robot].open = false
	case c.kind == wipe:
		for i := range seen {
			seen[i].open = false
		}
	case c.kind == due:
		for _, x := range a.due {
			s := seen[x.Robot]
			if !s.open || s.tele != x || c.now-s.at < resend {
				t.Fatalf("Due at %d tells %+v, seen was %+v", c.now, x, s)
			}
			seen[x.Robot].at = c.now
		}
		for _, s := range seen {
			if s.open && c.now-s.at >= resend {
				t.Fatalf("Due at %d does not tell %+v", c.now, s)
			}
		}
	}
}

// P17.3, over scripts of calls as time goes on: what waits is told over and over, once in resend ticks at most, until it is got, then never; and each call answers what the words say.
func TestScripts(t *testing.T) {
	var luck chance = 5
	for range 1500 {
		robots, resend := luck.below(api.MaxRobots+1), 1+luck.below(6)
		l, r := made(t, robots, resend), &record{robots: robots, resend: resend}
		seen := make([]sight, robots)
		now := luck.below(3)
		for range 60 {
			now += max(0, luck.below(5)-2)
			c := drawCall(&luck, robots, now)
			watch(t, seen, resend, c, both(t, l, r, c))
		}
	}
}

// P17.1, P17.2, over scripts in which time goes any way, to its limits too.
func TestScriptsOfAnyTicks(t *testing.T) {
	ticks := append(ends(), -3, -1, 0, 1, 2, 3, 9, 10, 11, end-12, end-11, end-10, end-2, end-1)
	resends := []int{1, 2, 10, api.MaxTicks, end - 1, end, end + 1}
	var luck chance = 8
	for range 1500 {
		robots, resend := 1+luck.below(3), resends[luck.below(len(resends))]
		l, r := made(t, robots, resend), &record{robots: robots, resend: resend}
		for range 40 {
			both(t, l, r, drawCall(&luck, robots, ticks[luck.below(len(ticks))]))
		}
	}
}

// P17.3: all short scripts of two robots, each call at the tick of the one ahead of it or a little later.
func TestAllShortScripts(t *testing.T) {
	every := []call{
		{kind: send, tele: goes(0, 1)}, {kind: send, tele: stops(0, 2)}, {kind: send, tele: goes(1, 1)},
		{kind: get, robot: 0}, {kind: get, robot: 1}, {kind: due}, {kind: wipe},
	}
	steps := []int{0, 1, 2}
	n := len(every) * len(steps)
	for script := range n * n * n * n {
		l, r := made(t, 2, 2), &record{robots: 2, resend: 2}
		seen := make([]sight, 2)
		now, rest := 0, script
		for range 4 {
			c := every[rest%n%len(every)]
			now += steps[rest%n/len(every)]
			c.now = now
			rest /= n
			watch(t, seen, 2, c, both(t, l, r, c))
		}
		now += 2
		last := call{kind: due, now: now}
		watch(t, seen, 2, last, both(t, l, r, last))
	}
}
