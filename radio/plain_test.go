package radio_test

import (
	"math"
	"slices"
	"testing"

	"skep/api"
	"skep/radio"
)

// chance is numbers that look like any, the same at each run.
type chance uint64

func (c *chance) below(n int) int {
	*c = *c*6364136223846793005 + 1442695040888963407
	return int(uint64(*c)>>33) % n
}

// ends is numbers near the ends of their range, and near powers of two.
func ends() []int {
	out := []int{math.MinInt, math.MinInt + 1, math.MinInt + 2, math.MaxInt - 1, math.MaxInt}
	for _, i := range []int{8, 10, 16, 31, 32, 61, 62} {
		out = append(out, 1<<i, 1<<i+1, 1<<i-1, -1<<i, -1<<i-1, -1<<i+1)
	}
	return out
}

// tele is a telegram with all that it may have, another one for each number.
func tele(num int) api.Tele {
	from, to := api.Pose{At: api.Cell{X: 1, Y: num}}, api.Pose{At: api.Cell{X: 1, Y: num + 3}, Down: true}
	m := api.Move{Kind: api.Run, Dir: api.South, N: 3, From: from, To: to, At: num, End: num + 9}
	return api.Tele{Kind: 1 + num&3, Robot: num % 8, Epoch: -num, Num: num, Move: m, Pose: to, Load: num + 7}
}

// teles is those with the numbers from one on, to below another.
func teles(from, upto int) []api.Tele {
	var out []api.Tele
	for num := from; num < upto; num++ {
		out = append(out, tele(num))
	}
	return out
}

// filled is a radio with just n under way, numbered from 0 on.
func filled(t *testing.T, n int) *radio.Radio {
	t.Helper()
	r := radio.New()
	if got := r.Send(teles(0, n)...); got != n {
		t.Fatalf("Send of %d: %d", n, got)
	}
	return r
}

// under fails unless just these are under way, by Len and All.
func under(t *testing.T, r *radio.Radio, want ...api.Tele) {
	t.Helper()
	if r.Len() != len(want) {
		t.Fatalf("Len: %d, want %d", r.Len(), len(want))
	}
	places := 0
	for i, x := range r.All() {
		if i != places || i >= len(want) || x != want[i] {
			t.Fatalf("All: %d, %+v, want %d of %+v", i, x, places, want)
		}
		places++
	}
	if places != len(want) {
		t.Fatalf("All: %d, want %d", places, len(want))
	}
}

// Kinds of calls.
const (
	send = iota
	hear
	lose
)

// call is one that is asked of a radio.
type call struct {
	kind, i int
	keep    bool
	list    []api.Tele
}

// answer is what a call answers, whichever it is.
type answer struct {
	tele api.Tele
	ok   bool
	n    int
}

// do is what a radio answers.
func do(r *radio.Radio, c call) answer {
	var a answer
	switch c.kind {
	case send:
		a.n = r.Send(c.list...)
	case hear:
		a.tele, a.ok = r.Hear(c.i, c.keep)
	case lose:
		a.ok = r.Lose(c.i)
	}
	return a
}

// record is the chapter's words done plainly: all that was ever put there, and which of them are gone.
type record struct {
	put  []api.Tele
	gone map[int]bool
}

// left is the places in put of those that are under way.
func (r *record) left() []int {
	var out []int
	for at := range r.put {
		if !r.gone[at] {
			out = append(out, at)
		}
	}
	return out
}

// under is those that are under way.
func (r *record) under() []api.Tele {
	var out []api.Tele
	for _, at := range r.left() {
		out = append(out, r.put[at])
	}
	return out
}

// meant is the place in put of the one that a number means: from 0 to below how many there are, as far from the number as a multiple of that.
func (r *record) meant(i int) (int, bool) {
	left := r.left()
	for at := range left {
		if at%len(left) == floor(i, len(left)) {
			return left[at], true
		}
	}
	return 0, false
}

// floor is what is left of i if n is taken from it, or put to it, as often as needed.
func floor(i, n int) int {
	for i >= n {
		i -= max(n, i/2/n*n)
	}
	for i < 0 {
		i += max(n, -(i/2)/n*n)
	}
	return i
}

// do is what must be answered; the call is written down.
func (r *record) do(c call) answer {
	var a answer
	if r.gone == nil {
		r.gone = map[int]bool{}
	}
	switch c.kind {
	case send:
		for _, x := range c.list {
			if len(r.left()) < 1024 {
				r.put = append(r.put, x)
				a.n++
			}
		}
	case hear:
		at, ok := r.meant(c.i)
		if ok {
			a.tele, a.ok = r.put[at], true
			r.gone[at] = !c.keep
		}
	case lose:
		at, ok := r.meant(c.i)
		if ok {
			a.ok = true
			r.gone[at] = true
		}
	}
	return a
}

// both fails unless a radio answers what the record does, and unless the same are under way behind it.
func both(t *testing.T, r *radio.Radio, q *record, c call) answer {
	t.Helper()
	ahead := q.under()
	a, want := do(r, c), q.do(c)
	if a != want {
		t.Fatalf("%+v with %+v under way: %+v, want %+v", c, ahead, a, want)
	}
	under(t, r, q.under()...)
	return a
}

// spoil writes over a list and its spare room.
func spoil(l []api.Tele) {
	l = l[:cap(l)]
	for i := range l {
		l[i] = api.Tele{Kind: 99, Robot: -7}
	}
}

// roomy is a list with spare room, which holds something too; whole is a copy of both.
func roomy(l []api.Tele, room int) (roomy, whole []api.Tele) {
	out := append(slices.Clone(l), teles(5000, 5000+room)...)
	return out[:len(l)], slices.Clone(out)
}
