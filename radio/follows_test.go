package radio_test

import (
	"slices"
	"testing"

	"skep/api"
	"skep/radio"
)

// drawPlace is any place: mostly near those that there are.
func drawPlace(luck *chance, n int) int {
	if luck.below(8) == 0 {
		l := ends()
		return l[luck.below(len(l))]
	}
	return luck.below(3*n+5) - n - 2
}

// drawCall is any call; what is sent has a number of its own each.
func drawCall(luck *chance, n, most int, next *int) call {
	c := call{kind: luck.below(3), i: drawPlace(luck, n), keep: luck.below(3) == 0}
	if c.kind == send {
		upto := *next + luck.below(most+1)
		c.list = teles(*next, upto)
		*next = upto
	}
	return c
}

// seen is what is seen from outside: the numbers of what was sent and put there, in that order, and what of them was heard and not kept.
type seen struct {
	put   []int
	taken map[int]bool
}

// watch fails if what a call answers is not what P20.2 says, by what All tells behind it: all of it was put there, in that order, and is not gone.
func watch(t *testing.T, s *seen, r *radio.Radio, c call, a answer) {
	t.Helper()
	if s.taken == nil {
		s.taken = map[int]bool{}
	}
	if c.kind == hear && a.ok {
		if !slices.Contains(s.put, a.tele.Num) || s.taken[a.tele.Num] {
			t.Fatalf("%d is heard, put were %v, gone %v", a.tele.Num, s.put, s.taken)
		}
		s.taken[a.tele.Num] = !c.keep
	}
	for i := range a.n {
		s.put = append(s.put, c.list[i].Num)
	}
	var left []int
	for _, x := range r.All() {
		left = append(left, x.Num)
	}
	if !slices.IsSorted(left) {
		t.Fatalf("%v are not in order", left)
	}
	missing := 0
	for _, num := range s.put {
		if is := slices.Contains(left, num); is == s.taken[num] {
			missing++
			s.taken[num] = true
			if is || c.kind != lose || !a.ok || missing > 1 {
				t.Fatalf("%+v: %d is under way: %v", c, num, is)
			}
		}
	}
}

// P20.2: over drawn scripts: what is heard was sent, what is lost or taken is never heard again, what is kept can be; the others keep their order; each call answers what the words say.
func TestScripts(t *testing.T) {
	var luck chance = 3
	for range 1500 {
		r, q, s := radio.New(), &record{}, &seen{}
		next, most := 1, 1+luck.below(6)
		for range 40 {
			c := drawCall(&luck, r.Len(), most, &next)
			watch(t, s, r, c, both(t, r, q, c))
		}
	}
}

// P20.1, P20.2: over scripts in which there is hardly any room.
func TestScriptsNearlyFull(t *testing.T) {
	var luck chance = 4
	for range 12 {
		r, q := radio.New(), &record{}
		next := 1 + api.MaxPieces - luck.below(4)
		both(t, r, q, call{kind: send, list: teles(1, next)})
		for range 60 {
			both(t, r, q, drawCall(&luck, r.Len(), 3, &next))
		}
	}
}

// P20.2: all short scripts of few calls.
func TestAllShortScripts(t *testing.T) {
	every := []call{{kind: send}, {kind: send, i: 1}, {kind: send, i: 2}}
	for _, i := range []int{-1, 0, 1, 2} {
		every = append(every, call{kind: hear, i: i}, call{kind: hear, i: i, keep: true}, call{kind: lose, i: i})
	}
	n := len(every)
	for script := range n * n * n * n {
		r, q, s := radio.New(), &record{}, &seen{}
		next, rest := 4, script
		first := call{kind: send, list: teles(1, 4)}
		watch(t, s, r, first, both(t, r, q, first))
		for range 4 {
			c := every[rest%n]
			rest /= n
			if c.kind == send {
				c.list = teles(next, next+c.i)
				next += c.i
			}
			watch(t, s, r, c, both(t, r, q, c))
		}
	}
}

// P20.2: what is kept can be heard over and over, then taken once.
func TestHeardOverAndOver(t *testing.T) {
	r := filled(t, 3)
	for range 100 {
		if x, ok := r.Hear(1, true); x != tele(1) || !ok {
			t.Fatal(x, ok)
		}
	}
	if x, ok := r.Hear(1, false); x != tele(1) || !ok {
		t.Fatal(x, ok)
	}
	for i := range 20 {
		if x, ok := r.Hear(i, true); x == tele(1) || !ok {
			t.Fatal(x, ok)
		}
	}
}

// R4: two radios have nothing in common, though one list was sent on both.
func TestNothingInCommon(t *testing.T) {
	var luck chance = 6
	for range 200 {
		x, p := radio.New(), &record{}
		y, q := radio.New(), &record{}
		next := 9
		l := teles(1, 9)
		both(t, x, p, call{kind: send, list: l})
		both(t, y, q, call{kind: send, list: l})
		for range 20 {
			both(t, x, p, drawCall(&luck, x.Len(), 3, &next))
			both(t, y, q, drawCall(&luck, y.Len(), 3, &next))
		}
	}
}

// R4: what is answered hangs on the calls alone: the same script answers the same.
func TestSameScriptSame(t *testing.T) {
	var one, other chance = 9, 9
	x, y := radio.New(), radio.New()
	i, j := 1, 1
	for range 500 {
		if a, b := do(x, drawCall(&one, x.Len(), 4, &i)), do(y, drawCall(&other, y.Len(), 4, &j)); a != b {
			t.Fatal(a, b)
		}
	}
}
