package link_test

import (
	"math"
	"slices"
	"testing"

	"skep/api"
	"skep/link"
)

// end is the tick at which all time ends.
const end = api.Forever

// chance is numbers that look like any, the same at each run.
type chance uint64

func (c *chance) below(n int) int {
	*c = *c*6364136223846793005 + 1442695040888963407
	return int(uint64(*c)>>33) % n
}

// ends is numbers near the ends of their range, and near powers of two.
func ends() []int {
	out := []int{math.MinInt, math.MinInt + 1, math.MaxInt - 1, math.MaxInt}
	for _, i := range []int{8, 16, 31, 32, 61, 62} {
		out = append(out, 1<<i, 1<<i+1, -1<<i, -1<<i-1)
	}
	return out
}

// goes is a go-ahead with all that it may have.
func goes(robot, num int) api.Tele {
	from, to := api.Pose{At: api.Cell{X: 1, Y: 2}}, api.Pose{At: api.Cell{X: 1, Y: 5}, Down: true}
	return api.Tele{Kind: api.TeGo, Robot: robot, Epoch: 4, Num: num, Move: api.Move{Kind: api.Run, Dir: api.South, N: 3, From: from, To: to, At: 7, End: 19}}
}

// stops is a stop.
func stops(robot, epoch int) api.Tele {
	return api.Tele{Kind: api.TeStop, Robot: robot, Epoch: epoch}
}

// made is a link at which nothing waits; it fails, if there is none.
func made(t *testing.T, robots, resend int) *link.Link {
	t.Helper()
	l, e := link.New(robots, resend)
	if l == nil || e != api.OK {
		t.Fatalf("New %d, %d: %v, error %d", robots, resend, l, e)
	}
	return l
}

// sends fails unless a telegram is taken, and answered as it is.
func sends(t *testing.T, l *link.Link, x api.Tele, now int) {
	t.Helper()
	if got, e := l.Send(x, now); e != api.OK || got != x {
		t.Fatalf("Send of %+v at %d: %+v, error %d", x, now, got, e)
	}
}

// refuses fails unless a telegram is refused.
func refuses(t *testing.T, l *link.Link, x api.Tele, now int) {
	t.Helper()
	if got, e := l.Send(x, now); e != api.ErrArg || got != (api.Tele{}) {
		t.Fatalf("Send of %+v at %d: %+v, error %d, want error %d", x, now, got, e, api.ErrArg)
	}
}

// waits fails unless just this waits for a robot's answer.
func waits(t *testing.T, l *link.Link, robot int, want api.Tele) {
	t.Helper()
	if got, ok := l.Waits(robot); !ok || got != want {
		t.Fatalf("Waits of %d: %+v, %v, want %+v", robot, got, ok, want)
	}
}

// idle fails if something waits for the answer of one of these.
func idle(t *testing.T, l *link.Link, robots ...int) {
	t.Helper()
	for _, robot := range robots {
		if got, ok := l.Waits(robot); ok || got != (api.Tele{}) {
			t.Fatalf("Waits of %d: %+v, %v, want none", robot, got, ok)
		}
	}
}

// gets fails unless Got answers just this.
func gets(t *testing.T, l *link.Link, robot int, want bool) {
	t.Helper()
	if got := l.Got(robot); got != want {
		t.Fatalf("Got of %d: %v, want %v", robot, got, want)
	}
}

// tells fails unless just these are due.
func tells(t *testing.T, l *link.Link, now int, want ...api.Tele) {
	t.Helper()
	if got := l.Due(now); !slices.Equal(got, want) {
		t.Fatalf("Due at %d: %+v, want %+v", now, got, want)
	}
}

// Kinds of calls.
const (
	send = iota
	get
	ask
	due
	wipe
)

// call is one that is asked of a link.
type call struct {
	kind, robot, now int
	tele             api.Tele
}

// answer is what a call answers, whichever it is.
type answer struct {
	tele api.Tele
	e    api.Errno
	ok   bool
	due  []api.Tele
}

// do is what a link answers.
func do(l *link.Link, c call) answer {
	var a answer
	switch c.kind {
	case send:
		a.tele, a.e = l.Send(c.tele, c.now)
	case get:
		a.ok = l.Got(c.robot)
	case ask:
		a.tele, a.ok = l.Waits(c.robot)
	case due:
		a.due = l.Due(c.now)
	case wipe:
		l.Clear()
	}
	return a
}

// record is the chapter's words done plainly: it keeps nothing but the calls and what was answered, and reads anew from these what waits.
type record struct {
	robots, resend int
	calls          []call
	answers        []answer
}

// last is what waits for a robot's answer and when it was sent last.
func (r *record) last(robot int) (x api.Tele, at int, ok bool) {
	for i, c := range r.calls {
		switch {
		case c.kind == send && r.answers[i].e == api.OK && c.tele.Robot == robot:
			x, at, ok = c.tele, c.now, true
		case c.kind == get && c.robot == robot, c.kind == wipe:
			x, at, ok = api.Tele{}, 0, false
		case c.kind == due && slices.Contains(r.answers[i].due, x):
			at = c.now
		}
	}
	return x, at, ok
}

// ago is how many ticks lie between, as chapter 1 has it.
func ago(now, then int) int {
	if now >= end {
		return end
	}
	return max(0, max(0, now)-min(max(0, then), end))
}

// do is what must be answered; the call is written down.
func (r *record) do(c call) answer {
	var a answer
	switch c.kind {
	case send:
		taken := c.tele.Kind == api.TeGo || c.tele.Kind == api.TeStop
		if taken && c.tele.Robot >= 0 && c.tele.Robot < r.robots {
			a.tele = c.tele
		} else {
			a.e = api.ErrArg
		}
	case get:
		_, _, a.ok = r.last(c.robot)
	case ask:
		a.tele, _, a.ok = r.last(c.robot)
	case due:
		for robot := range r.robots {
			if x, at, ok := r.last(robot); ok && ago(c.now, at) >= r.resend {
				a.due = append(a.due, x)
			}
		}
	}
	r.calls, r.answers = append(r.calls, c), append(r.answers, a)
	return a
}

// both fails unless a link answers what the record does, and unless all that waits is the same behind it.
func both(t *testing.T, l *link.Link, r *record, c call) answer {
	t.Helper()
	a, want := do(l, c), r.do(c)
	if a.tele != want.tele || a.e != want.e || a.ok != want.ok || !slices.Equal(a.due, want.due) {
		t.Fatalf("%+v behind %+v: %+v, want %+v", c, r.calls, a, want)
	}
	for robot := -1; robot <= r.robots; robot++ {
		x, _, waiting := r.last(robot)
		if got, ok := l.Waits(robot); ok != waiting || got != x {
			t.Fatalf("Waits of %d behind %+v: %+v, %v, want %+v, %v", robot, r.calls, got, ok, x, waiting)
		}
	}
	return a
}
