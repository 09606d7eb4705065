package play_test

import (
	"math"
	"reflect"
	"slices"
	"testing"

	"skep/api"
	"skep/disk"
	"skep/grid"
	"skep/hive"
	"skep/play"
)

// P22.1: New of configs that may not be: grid's error, and nil; Play of them likewise.
func TestNewRefuses(t *testing.T) {
	for what, turn := range map[string]func(c *api.Conf){
		"nothing":                      func(c *api.Conf) { *c = api.Conf{} },
		"no cells":                     func(c *api.Conf) { c.W = 0 },
		"sides whose product wraps":    func(c *api.Conf) { c.W, c.H = math.MinInt, 2 },
		"a side beyond":                func(c *api.Conf) { c.H = 17 },
		"no height":                    func(c *api.Conf) { c.Height = 0 },
		"a height beyond":              func(c *api.Conf) { c.Height = 9 },
		"no unit":                      func(c *api.Conf) { c.Unit = 0 },
		"no acceleration":              func(c *api.Conf) { c.Accel = -1 },
		"a speed beyond":               func(c *api.Conf) { c.Speed = 1001 },
		"no turn":                      func(c *api.Conf) { c.Turn = 0 },
		"no hoist":                     func(c *api.Conf) { c.Hoist = 0 },
		"no resend":                    func(c *api.Conf) { c.Resend = 0 },
		"no queue":                     func(c *api.Conf) { c.Queue = 0 },
		"a queue beyond":               func(c *api.Conf) { c.Queue = 17 },
		"no budget":                    func(c *api.Conf) { c.Budget = 0 },
		"a budget beyond":              func(c *api.Conf) { c.Budget = api.MaxBudget + 1 },
		"a blocked port":               func(c *api.Conf) { c.Blocked = append(c.Blocked, at(0, 0)) },
		"a blocked cell twice":         func(c *api.Conf) { c.Blocked = []api.Cell{at(2, 2), at(2, 2)} },
		"a port outside":               func(c *api.Conf) { c.Ports[1] = at(5, 0) },
		"a port twice":                 func(c *api.Conf) { c.Ports[1] = at(0, 0) },
		"a port on a home":             func(c *api.Conf) { c.Ports[1] = at(3, 2) },
		"robots with a cell in common": func(c *api.Conf) { c.Robots[1] = flat(1, 2) },
		"a robot half out":             func(c *api.Conf) { c.Robots[1] = flat(4, 2) },
		"a robot far out":              func(c *api.Conf) { c.Robots[0] = flat(math.MaxInt, math.MinInt) },
		"a stack on a port":            func(c *api.Conf) { c.Stacks[0].At = at(0, 0) },
		"a stack on a home":            func(c *api.Conf) { c.Stacks[0].At = at(3, 2) },
		"a stack twice":                func(c *api.Conf) { c.Stacks[1].At = at(1, 0) },
		"a stack too high":             func(c *api.Conf) { c.Height = 2 },
		"a bin twice":                  func(c *api.Conf) { c.Stacks[1].Bins = []int{8} },
		"a bin 0":                      func(c *api.Conf) { c.Stacks[1].Bins = []int{0} },
	} {
		c := yard()
		turn(&c)
		_, want := grid.New(c)
		if r, e := play.New(c); r != nil || e != want || e != api.ErrConf {
			t.Errorf("%s: %v, error %d, want nil and %d", what, r, e, want)
		}
		if r, l, e := play.Play(c, []api.Op{opTick()}); r != nil || len(l) != 0 || e != want {
			t.Errorf("%s: %v, %v, error %d, want nil, none and %d", what, r, l, e, want)
		}
	}
}

// P22.1: New of configs that may be, and of those beside them, of any numbers.
func TestNewOfAny(t *testing.T) {
	var luck chance = 2
	fields := []func(c *api.Conf) *int{
		func(c *api.Conf) *int { return &c.W }, func(c *api.Conf) *int { return &c.H }, func(c *api.Conf) *int { return &c.Height },
		func(c *api.Conf) *int { return &c.Unit }, func(c *api.Conf) *int { return &c.Accel }, func(c *api.Conf) *int { return &c.Speed },
		func(c *api.Conf) *int { return &c.Turn }, func(c *api.Conf) *int { return &c.Hoist }, func(c *api.Conf) *int { return &c.Queue },
		func(c *api.Conf) *int { return &c.Resend }, func(c *api.Conf) *int { return &c.Budget },
		func(c *api.Conf) *int { return &c.Ports[0].X }, func(c *api.Conf) *int { return &c.Robots[1].At.Y }, func(c *api.Conf) *int { return &c.Stacks[0].At.X }, func(c *api.Conf) *int { return &c.Stacks[1].Bins[0] },
	}
	may := 0
	for _, field := range fields {
		for _, n := range append(ends(), -1, 0, 1, 2, 3, 5, 8, 9, 16, 17, 1000, 1001, 1<<20, 1<<20+1, 1000000000, 1000000001, 1+luck.below(1000)) {
			c := yard()
			*field(&c) = n
			want := api.ErrConf
			if grid.May(c) {
				want, may = api.OK, may+1
			}
			if r, e := play.New(c); e != want || (r == nil) != (e != api.OK) {
				t.Errorf("%+v: %v, error %d, want %d", c, r, e, want)
			}
		}
	}
	if may < 50 {
		t.Errorf("only %d may be", may)
	}
}

// P22.1: a new run: the first state, the world at home and at 0, nothing seen, told or under way, and what a hive leaves on a new disk.
func TestNew(t *testing.T) {
	var luck chance = 3
	confs := []api.Conf{bare(1, 1), small(), yard(), row(0), row(8)}
	for range 30 {
		confs = append(confs, drawConf(&luck))
	}
	for _, c := range confs {
		r := made(t, c)
		same(t, r.State(), firstOf(t, c))
		if r.Radio().Len() != 0 || len(r.Told()) != 0 || r.World().Now() != 0 || len(r.World().Sights()) != 0 {
			t.Errorf("%d under way, told %+v, at %d, seen %+v", r.Radio().Len(), r.Told(), r.World().Now(), r.World().Sights())
		}
		for i, p := range c.Robots {
			if q, load, ok := r.World().Robot(i); q != p || load != 0 || !ok {
				t.Errorf("robot %d: %v, %d, %v", i, q, load, ok)
			}
		}
		if _, _, ok := r.World().Robot(len(c.Robots)); ok {
			t.Errorf("a robot %d", len(c.Robots))
		}
		for _, l := range c.Stacks {
			if !slices.Equal(r.World().At(l.At), l.Bins) {
				t.Errorf("at %v: %v", l.At, r.World().At(l.At))
			}
		}
		d := disk.New()
		if _, l, e := hive.New(c, d, 0); len(l) != 0 || e != api.OK {
			t.Fatal(l, e)
		}
		alike(t, r.Disk(), d)
	}
}

// P22.1: the parts of a run are always the same ones; of the disk till a crash.
func TestPartsStay(t *testing.T) {
	r := made(t, yard())
	w, radio, d := r.World(), r.Radio(), r.Disk()
	does(t, r, opOrder(9, 0), opTick(), opHear(0, 0), opTick(), opStop(), opHear(0, 1), opLose(0), opCheck(), opDelay(0, 2))
	if r.World() != w || r.Radio() != radio || r.Disk() != d {
		t.Error("other parts")
	}
	does(t, r, opCrash(0, 0))
	if r.World() != w || r.Radio() != radio || r.Disk() == d {
		t.Error("other parts behind a crash, or the same disk")
	}
	d = r.Disk()
	does(t, r, opTick(), opTick())
	if r.Disk() != d {
		t.Error("another disk")
	}
}

// P22.1: Told is all telegrams that the hive has told, in their order, each as often as it was told; what robots tell is not among them.
func TestTold(t *testing.T) {
	c := yard()
	c.Resend = 4
	r := made(t, c)
	does(t, r, opOrder(9, 0), opOrder(5, 1), opTick())
	s := r.State()
	var want []api.Tele
	for i, x := range s.Robots {
		want = append(want, teGo(i, 0, 1, x.Moves[0]))
	}
	tells := func() {
		t.Helper()
		if l := r.Told(); len(l) == 0 || !slices.Equal(l, want) {
			t.Fatalf("told is\n%+v\nwant\n%+v", l, want)
		}
	}
	tells()
	// What is lost, and what is heard, was told.
	does(t, r, opLose(0), opHear(0, 0), opDelay(1, 50), opTick(), opTick(), opTick())
	tells()
	does(t, r, opTick())
	want = append(want, want...)
	tells()
	does(t, r, opStop())
	want = append(want, stops(c, 1)...)
	tells()
	for r.Radio().Len() > 0 {
		does(t, r, opHear(0, 0))
	}
	tells()
	does(t, r, opCrash(0, 0))
	want = append(want, stops(c, 2)...)
	tells()
	for _, o := range []api.Op{opOrder(8, 0), opDrain(0), opResume(), opCheck(), {Kind: 77}, opLose(3), opHear(1, 5), opDelay(9, 9)} {
		r.Do(o)
	}
	tells()
	if len(seen(r, 0)) == 0 {
		t.Error("nothing was seen")
	}
}

// P22.1: what is lost for want of room by radio is told all the same.
func TestToldWithoutRoom(t *testing.T) {
	c := row(3)
	r := made(t, c)
	var want []api.Tele
	for epoch := 1; epoch <= 360; epoch++ {
		does(t, r, opStop())
		want = append(want, stops(c, epoch)...)
		if l := r.Told(); !slices.Equal(l, want) {
			t.Fatalf("told is\n%+v\nwant\n%+v", l, want)
		}
		flies(t, r, want[:min(len(want), 1024)]...)
	}
	if len(want) <= 1024 || !reflect.DeepEqual(r.Told(), want) {
		t.Error(len(want))
	}
}
