package world_test

import (
	"slices"
	"testing"

	"skep/api"
	"skep/world"
)

// told is what the sights alone tell: where each robot is, what it has, the bins by their cells.
type told struct {
	poses []api.Pose
	loads []int
	stand map[api.Cell][]int
}

// toldBy is what a config's sights tell; it fails where a bin is lifted that is not the highest, or dropped that the robot has not.
func toldBy(t *testing.T, c api.Conf, l []api.Sight) told {
	t.Helper()
	w := told{poses: slices.Clone(c.Robots), loads: make([]int, len(c.Robots)), stand: map[api.Cell][]int{}}
	for _, s := range c.Stacks {
		w.stand[s.At] = slices.Clone(s.Bins)
	}
	for i, s := range l {
		cell := s.Pose.At
		bins := w.stand[cell]
		switch {
		case s.Kind == api.SeLift && w.loads[s.Robot] == 0 && len(bins) > 0 && bins[len(bins)-1] == s.Bin:
			w.loads[s.Robot], w.stand[cell] = s.Bin, bins[:len(bins)-1]
		case s.Kind == api.SeDrop && w.loads[s.Robot] == s.Bin && s.Bin > 0:
			w.loads[s.Robot], w.stand[cell] = 0, append(bins, s.Bin)
		case s.Kind == api.SeDeliver && l[i-1] == (api.Sight{Kind: api.SeDrop, Tick: s.Tick, Robot: s.Robot, Bin: s.Bin, Pose: s.Pose}) && slices.Contains(c.Ports, cell):
		case s.Kind == api.SeLift, s.Kind == api.SeDrop, s.Kind == api.SeDeliver:
			t.Fatalf("sight %d cannot be: %+v", i, l[:i+1])
		case s.Kind == api.SeEnd:
			w.poses[s.Robot] = s.Move.To
		case s.Pose != w.poses[s.Robot] && s.Kind != api.SeBad:
			t.Fatalf("sight %d is elsewhere: %+v", i, l[:i+1])
		}
	}
	return w
}

// agrees fails unless a world is as its sights tell, and unless its bins are the config's, each once.
func agrees(t *testing.T, c api.Conf, w *world.World) {
	t.Helper()
	want := toldBy(t, c, w.Sights())
	var found []int
	for i := range c.Robots {
		p, load, _ := w.Robot(i)
		if p != want.poses[i] || load != want.loads[i] {
			t.Fatalf("robot %d: %v, %d, want %v, %d", i, p, load, want.poses[i], want.loads[i])
		}
		if load != 0 {
			found = append(found, load)
		}
	}
	for _, cell := range around(c) {
		l := w.At(cell)
		if !slices.Equal(l, want.stand[cell]) || len(l) > max(0, plainRoom(c, cell)) {
			t.Fatalf("At %v: %v, want %v", cell, l, want.stand[cell])
		}
		found = append(found, l...)
	}
	slices.Sort(found)
	if !slices.Equal(found, bins(c)) || !slices.Equal(w.Bins(), bins(c)) {
		t.Fatalf("found are %v, Bins: %v, want %v", found, w.Bins(), bins(c))
	}
}

// drawMove is any move of a robot; mostly one with bins where that can be done, most of them legal and with some time.
func drawMove(luck *chance, m *model, i int) api.Move {
	p := m.robots[i].Pose()
	hoist, works := lifts(p, 0), m.loads[i] == 0 && len(m.stand[p.At]) > 0
	if m.loads[i] != 0 {
		hoist, works = drops(p, 0), len(m.stand[p.At]) < plainRoom(m.c, p.At)
	}
	x := hoist
	if luck.below(3) > 0 || !works {
		all := []api.Move{lifts(p, 0), drops(p, 0)}
		for y := range m.grid.Moves(p) {
			all = append(all, y)
		}
		x = all[luck.below(len(all))]
	}
	x.At = luck.below(4)
	x.End = x.At + 1 + luck.below(3)
	switch luck.below(30) {
	case 0:
		x.End = x.At - luck.below(3)
	case 1:
		x.To.Down = !x.To.Down
	case 2:
		x.Kind = luck.below(7)
	case 3:
		x.From = api.Pose{At: at(luck.below(4), luck.below(3)), Down: luck.below(2) == 0}
	}
	return x
}

// drawTele is any telegram; most of them such that a robot may take them.
func drawTele(luck *chance, m *model) api.Tele {
	i := luck.below(len(m.robots))
	r := m.robots[i]
	x := goes(i, r.Epoch(), r.Tell()[0].Num+1, drawMove(luck, m, i))
	switch luck.below(14) {
	case 0:
		x.Num--
	case 1:
		x.Num += luck.below(5) - 2
	case 2:
		x.Epoch -= 1 + luck.below(3)
	case 3:
		x.Epoch++
	case 4:
		x = stops(i, r.Epoch()+1+luck.below(2))
	case 5:
		x = stops(i, r.Epoch()-luck.below(2))
	}
	switch luck.below(40) {
	case 0:
		x.Robot = luck.below(len(m.robots)+4) - 2
	case 1:
		x.Kind = luck.below(7) - 1
	}
	return x
}

// drawCall is any call; most of them are ticks.
func drawCall(luck *chance, m *model) call {
	switch n := luck.below(24); {
	case n < 10:
		return call{kind: hear, tele: drawTele(luck, m)}
	case n < 11:
		return call{kind: late, i: luck.below(len(m.robots)+2) - 1, n: luck.below(6) - 1}
	}
	return call{kind: pass}
}

// drawn is any script for a config, its calls such as the model's robots may take.
func drawn(luck *chance, c api.Conf, n int) []call {
	m := modelOf(c)
	var out []call
	for range n {
		x := drawCall(luck, m)
		m.do(x)
		out = append(out, x)
	}
	return out
}

// P19.5, over scripts: each call answers what the words say, and the bins are always the config's, each once, where the sights tell.
func TestScripts(t *testing.T) {
	var luck chance = 7
	seen := make([]int, api.SeBad+1)
	for i := range 500 {
		c := []api.Conf{corner(), tight(), yard()}[i%3]
		c.Accel, c.Speed = 1+luck.below(5), 1+luck.below(9)
		w, m := made(t, c), modelOf(c)
		for range 250 {
			both(t, w, m, drawCall(&luck, m))
			agrees(t, c, w)
		}
		for _, s := range m.sights {
			seen[s.Kind]++
		}
	}
	for kind := api.SeStart; kind <= api.SeBad; kind++ {
		if seen[kind] < 100 {
			t.Errorf("%d was seen %d times: too few", kind, seen[kind])
		}
	}
}

// P19.5: all short scripts of a robot over a stack beside a port.
func TestAllShortScripts(t *testing.T) {
	c := corner()
	c.Unit, c.Accel, c.Speed = 2, 1, 1
	over, port := to(1, 0), to(0, 0)
	every := []func(num int) call{
		func(int) call { return call{kind: pass} },
		func(int) call { return call{kind: late, n: 1} },
		func(num int) call { return call{kind: hear, tele: goes(0, 0, num, lifts(over, 1))} },
		func(num int) call { return call{kind: hear, tele: goes(0, 0, num, drops(over, 2))} },
		func(num int) call { return call{kind: hear, tele: goes(0, 0, num, runs(over, api.West, 1, 2))} },
		func(num int) call { return call{kind: hear, tele: goes(0, 0, num, drops(port, 1))} },
		func(int) call { return call{kind: hear, tele: stops(0, 1)} },
		func(num int) call { return call{kind: hear, tele: goes(0, 1, num, drops(over, 1))} },
	}
	n := len(every)
	for script := range n * n * n * n * n {
		w, m := made(t, c), modelOf(c)
		do(w, call{kind: hear, tele: goes(0, 0, 1, runs(to(1, 1), api.North, 1, 1))})
		m.do(call{kind: hear, tele: goes(0, 0, 1, runs(to(1, 1), api.North, 1, 1))})
		for rest, k := script, 0; k < 5; rest, k = rest/n, k+1 {
			do(w, call{kind: pass})
			m.do(call{kind: pass})
			both(t, w, m, every[rest%n](m.robots[0].Tell()[0].Num+1))
			agrees(t, c, w)
		}
	}
}

// P19.5: what is seen and told hangs on what was heard, and when: the same again is the same, whatever is asked in between.
func TestSameAgain(t *testing.T) {
	var luck chance = 11
	for range 40 {
		c := tight()
		w, again := made(t, c), made(t, c)
		for _, x := range drawn(&luck, c, 120) {
			a := do(w, x)
			for _, i := range robots(c) {
				again.Robot(i)
				again.Under(i)
			}
			again.Now()
			again.Sights()
			again.At(at(1, 0))
			again.Bins()
			if b := do(again, x); !alike(a, b) {
				t.Fatalf("%+v: %+v, then %+v", x, a, b)
			}
		}
		if !slices.Equal(w.Sights(), again.Sights()) {
			t.Fatalf("%+v, then %+v", w.Sights(), again.Sights())
		}
	}
}

// P19.5: what is heard so many ticks later is seen so many ticks later, and is the same else.
func TestSameLater(t *testing.T) {
	var luck chance = 12
	for n := range 40 {
		c := tight()
		w, later := made(t, c), made(t, c)
		rests(t, later, n)
		for _, x := range drawn(&luck, c, 120) {
			if a, b := do(w, x), do(later, x); !alike(a, b) {
				t.Fatalf("%+v: %+v, then %+v", x, a, b)
			}
		}
		want := w.Sights()
		for i := range want {
			want[i].Tick += n
		}
		if !slices.Equal(later.Sights(), want) {
			t.Fatalf("%+v, want %+v", later.Sights(), want)
		}
	}
}

// P19.5: sights stay: each call leaves those that there were, and puts its own behind them, of the time that it is then.
func TestSightsStay(t *testing.T) {
	var luck chance = 13
	for range 40 {
		c := tight()
		w := made(t, c)
		for _, x := range drawn(&luck, c, 120) {
			was := w.Sights()
			do(w, x)
			got := w.Sights()
			if len(got) < len(was) || !slices.Equal(got[:len(was)], was) {
				t.Fatalf("%+v behind %+v", got, was)
			}
			for _, s := range got[len(was):] {
				if s.Tick != w.Now() || x.kind == late {
					t.Fatalf("%+v at %d, of %+v", s, w.Now(), x)
				}
			}
		}
	}
}
